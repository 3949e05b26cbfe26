"""The calls that tell goods and recipes, and what goods cost; ranges have been asked before."""

from bagsmade.pricing import are_fair, least_costs
from bagsmade.refusals import GOODS_ALREADY, NEEDED_TWICE, NO_MORE_ALLOWED, NO_SUCH
from bagsmade.state import Good, Recipe, lacks_good

MOST_RECIPES = 16


def tell_goods(state, told):
    """Call 0: the goods, three numbers for each."""
    if len(state.goods) > 0:
        return [GOODS_ALREADY]
    for k in range(0, len(told), 3):
        state.goods.append(Good(told[k], told[k + 1], told[k + 2]))
    return [0, len(state.goods)]


def tell_recipe(state, good, cost, ticks, told):
    """Call 1: a new recipe, with two numbers for each good that it needs."""
    needs = [(told[k], told[k + 1]) for k in range(0, len(told), 2)]
    needed = [pair[0] for pair in needs]
    if any([lacks_good(state, named) for named in [good] + needed]):
        return [NO_SUCH]
    if len(state.recipes) >= MOST_RECIPES:
        return [NO_MORE_ALLOWED]
    if len(set(needed)) < len(needed):
        return [NEEDED_TWICE]
    state.recipes.append(Recipe(good, cost, ticks, needs))
    return [0, len(state.recipes) - 1]


def tell_costs(state):
    """Call 10: for each good what it costs."""
    return [0] + least_costs(state.goods, state.recipes)


def tell_fair(state, prices):
    """Call 11: 1 if there is a price for each good, and these are fair, else 0."""
    if len(prices) != len(state.goods):
        return [0, 0]
    if are_fair(state.goods, state.recipes, prices):
        return [0, 1]
    return [0, 0]
