"""The calls that plan and make; ranges have been asked before."""

from bagsmade.planning import carry_out, cost_of_steps, plan_for
from bagsmade.pricing import least_costs
from bagsmade.refusals import NO_COST, NO_ROOM, NO_SUCH
from bagsmade.state import lacks_bag, lacks_good


def tell_plan(state, b, good, many):
    """Call 12: what the plan costs, what it uses is worth, its steps and what it uses."""
    if lacks_bag(state, b) or lacks_good(state, good):
        return [NO_SUCH]
    costs = least_costs(state.goods, state.recipes)
    if costs[good] == 0:
        return [NO_COST]
    plan = plan_for(state, costs, b, good, many)
    worth = sum([costs[kept] * using for kept, using in plan.used])
    answer = [0, cost_of_steps(state, plan.steps), worth, len(plan.steps)]
    for part in plan.steps + plan.used:
        answer.extend(part)
    return answer


def make(state, b, good, many):
    """Call 13: the plan is carried out in the bag, and its cost paid."""
    if lacks_bag(state, b) or lacks_good(state, good):
        return [NO_SUCH]
    costs = least_costs(state.goods, state.recipes)
    # Asked before the room, though that is nearer to 0: without a cost there is no plan that could want room.
    if costs[good] == 0:
        return [NO_COST]
    steps = plan_for(state, costs, b, good, many).steps
    if not carry_out(state, b, steps):
        return [NO_ROOM]
    cost = cost_of_steps(state, steps)
    state.paid = state.paid + cost
    return [0, cost]
