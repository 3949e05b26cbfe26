"""What goods cost at least; 0 stands for no cost, as nothing is had for 0."""


def cost_by_recipe(recipe, costs):
    """What the recipe costs if each good costs what is told; 0 if a needed one has no cost."""
    total = recipe.cost
    for good, many in recipe.needs:
        if costs[good] == 0:
            return 0
        total = total + many * costs[good]
    return total


def least_costs(goods, recipes):
    """For each good what it costs."""
    costs = [good.price for good in goods]
    # A recipe costs more than each good that it needs, so no least way makes a
    # good out of itself, and there are no more steps in a row than goods.
    for turn in range(len(goods)):
        for recipe in recipes:
            made = cost_by_recipe(recipe, costs)
            before = costs[recipe.makes]
            if made > 0 and (before == 0 or made < before):
                costs[recipe.makes] = made
    return costs
