"""The calls that set up machines, order, let ticks go by, and ask; ranges have been asked before."""

from bagsmade.machines import let_a_tick_go_by
from bagsmade.refusals import NO_MORE_ALLOWED, NO_SUCH, TOO_MANY_TICKS
from bagsmade.state import Machine, lacks_bag, lacks_machine, lacks_recipe

MOST_MACHINES = 6
MOST_TICKS = 10000


def new_machine(state, a, b, recipe):
    """Call 14: a new machine that takes from a and puts into b."""
    if lacks_bag(state, a) or lacks_bag(state, b) or lacks_recipe(state, recipe):
        return [NO_SUCH]
    if len(state.machines) >= MOST_MACHINES:
        return [NO_MORE_ALLOWED]
    state.machines.append(Machine(a, b, recipe))
    return [0, len(state.machines) - 1]


def order(state, number, many):
    """Call 15: so many more are ordered of the machine."""
    if lacks_machine(state, number):
        return [NO_SUCH]
    machine = state.machines[number]
    machine.ordered = machine.ordered + many
    return [0]


def tick(state, many):
    """Call 16: so many ticks go by."""
    if state.ticks + many > MOST_TICKS:
        return [TOO_MANY_TICKS]
    for turn in range(many):
        let_a_tick_go_by(state)
    return [0, state.ticks]


def tell_state(state, number):
    """Call 17: the machine's bags and recipe, what is ordered, how it works, what it has made."""
    if lacks_machine(state, number):
        return [NO_SUCH]
    machine = state.machines[number]
    works = 1 if machine.works else 0
    fixed = [machine.takes_from, machine.puts_into, machine.recipe]
    return [0] + fixed + [machine.ordered, works, machine.left, machine.made]
