"""Plans: how so many of a good are had by what one bag has, and what is done then."""

from bagsmade.carrying import put_back, put_if_it_fits, take_needs
from bagsmade.pricing import cost_by_recipe
from bagsmade.stacking import count_in

BUY = 0
DO = 1


class Plan:
    """A plan while it grows: what it may still use, its steps, and what it uses.

    A step is BUY, a good and how many, or DO, a recipe and how often; used are pairs of a good and how many.
    """

    def __init__(self, stock):
        self.stock = stock
        self.steps = []
        self.used = []


def plan_for(state, costs, b, good, many):
    """The plan for so many of the good, which has a cost, by the stacks of the bag."""
    stacks = state.bags[b].stacks
    plan = Plan([count_in(stacks, k) for k in range(len(state.goods))])
    meet(state, costs, plan, good, many)
    return plan


def meet(state, costs, plan, good, many):
    """Add to the plan what meets so many of the good, which has a cost."""
    lacking = many - use_stock(plan, good, many)
    if lacking == 0:
        return
    if state.goods[good].price == costs[good]:
        plan.steps.append((BUY, good, lacking))
        return
    number = first_recipe_at_cost(state.recipes, costs, good)
    # What it needs costs less than the good: so this goes no deeper than there are goods.
    for needed, each in state.recipes[number].needs:
        meet(state, costs, plan, needed, lacking * each)
    plan.steps.append((DO, number, lacking))


def use_stock(plan, good, many):
    """Use what the stock has of the good, but no more than so many; how many that are."""
    stock = plan.stock
    using = min(many, stock[good])
    if using > 0:
        stock[good] = stock[good] - using
        plan.used.append((good, using))
    return using


def first_recipe_at_cost(recipes, costs, good):
    """The first recipe that makes the good at just its cost; there is one wherever its price is not its cost."""
    makers = [k for k, recipe in enumerate(recipes) if recipe.makes == good]
    return [k for k in makers if cost_by_recipe(recipes[k], costs) == costs[good]][0]


def cost_of_steps(state, steps):
    """What the steps cost: what is bought at its prices, recipes at their own costs."""
    total = 0
    for deed, which, many in steps:
        if deed == BUY:
            total = total + many * state.goods[which].price
        else:
            total = total + many * state.recipes[which].cost
    return total


def carry_out(state, b, steps):
    """Do all of the plan's steps in its bag, or nothing at all; whether they could be done."""
    stacks = state.bags[b].stacks
    held = state.bags[b].held
    for deed, which, many in steps:
        if not do_step(state, b, deed, which, many):
            put_back(state, b, stacks, held)
            return False
    return True


def do_step(state, b, deed, which, many):
    """Do one step of a plan in its bag; whether there was room for what comes of it."""
    if deed == BUY:
        return put_if_it_fits(state, b, which, many)
    recipe = state.recipes[which]
    # The bag has all of it: the plan has met each need before, and counts on nothing twice.
    take_needs(state, b, recipe.needs, many)
    return put_if_it_fits(state, b, recipe.makes, many)
