"""What goods cost at least; 0 stands for no cost, as nothing is had for 0."""


def cost_at(recipe, prices):
    """What the recipe costs by these prices of what it needs."""
    return recipe.cost + sum([many * prices[good] for good, many in recipe.needs])


def cost_by_recipe(recipe, costs):
    """What the recipe costs if each good costs what is told; 0 if a needed one has no cost."""
    if any([costs[good] == 0 for good, many in recipe.needs]):
        return 0
    return cost_at(recipe, costs)


def least_costs(goods, recipes):
    """For each good what it costs."""
    costs = [good.price for good in goods]
    # A recipe costs more than each good that it needs, so no least way makes a
    # good out of itself, and there are no more steps in a row than goods.
    for turn in range(len(goods)):
        for recipe in recipes:
            made = cost_by_recipe(recipe, costs)
            before = costs[recipe.makes]
            if made > 0 and (before == 0 or made < before):
                costs[recipe.makes] = made
    return costs


def are_fair(goods, recipes, prices):
    """Whether none of the prices, one for each good, is above a way to buy or make it."""
    for good, price in zip(goods, prices):
        if good.price > 0 and price > good.price:
            return False
    return all([prices[recipe.makes] <= cost_at(recipe, prices) for recipe in recipes])
