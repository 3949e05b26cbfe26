"""The interface: a list of calls in, the list of their answers out."""

from bagsmade.bagcalls import carry, move, new_bag, put, take, tell_fits, tell_load, tell_stacks
from bagsmade.goodcalls import tell_costs, tell_fair, tell_goods, tell_recipe
from bagsmade.machinecalls import new_machine, order, tell_state, tick
from bagsmade.plancalls import make, tell_plan
from bagsmade.refusals import NO_GOODS, OUT_OF_RANGE
from bagsmade.shapes import cut_into_calls, within_ranges
from bagsmade.state import State
from bagsmade.totalcalls import tell_count, tell_find, tell_totals


def answers(calls):
    """For each call how many numbers are answered, and these."""
    state = State()
    told = []
    for call in cut_into_calls(calls):
        answer = answer_to(state, call)
        told.append(len(answer))
        told.extend(answer)
    return told


def answer_to(state, call):
    """One call's answer; the refusals that any call may have come first, being nearest to 0."""
    if not within_ranges(call):
        return [OUT_OF_RANGE]
    if call.number == 0:
        return tell_goods(state, call.row)
    if call.number == 19:
        return tell_totals(state)
    if len(state.goods) == 0:
        return [NO_GOODS]
    if call.number == 1:
        return tell_recipe(state, call.plain[0], call.plain[1], call.plain[2], call.row)
    if call.number == 10:
        return tell_costs(state)
    if call.number == 11:
        return tell_fair(state, call.row)
    if call.number < 10:
        return answer_of_bags(state, call.number, call.plain)
    return answer_of_making(state, call.number, call.plain)


def answer_of_bags(state, number, plain):
    """The answer of a call from 2 to 9."""
    if number == 2:
        return new_bag(state, plain[0], plain[1], plain[2], plain[3])
    if number == 3:
        return put(state, plain[0], plain[1], plain[2])
    if number == 4:
        return take(state, plain[0], plain[1], plain[2])
    if number == 5:
        return move(state, plain[0], plain[1], plain[2], plain[3])
    if number == 6:
        return carry(state, plain[0], plain[1])
    if number == 7:
        return tell_stacks(state, plain[0])
    if number == 8:
        return tell_load(state, plain[0])
    return tell_fits(state, plain[0], plain[1])


def answer_of_making(state, number, plain):
    """The answer of a call from 12 to 20, but for 19."""
    if number == 12:
        return tell_plan(state, plain[0], plain[1], plain[2])
    if number == 13:
        return make(state, plain[0], plain[1], plain[2])
    if number == 14:
        return new_machine(state, plain[0], plain[1], plain[2])
    if number == 15:
        return order(state, plain[0], plain[1])
    if number == 16:
        return tick(state, plain[0])
    if number == 17:
        return tell_state(state, plain[0])
    if number == 18:
        return tell_count(state, plain[0])
    return tell_find(state, plain[0])
