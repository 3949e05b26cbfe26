"""What machines do in a tick."""

from bagsmade.carrying import put_if_it_fits, take_needs
from bagsmade.stacking import count_in


def let_a_tick_go_by(state):
    """Each machine acts once, by their numbers."""
    for machine in state.machines:
        act(state, machine)
    state.ticks = state.ticks + 1


def act(state, machine):
    """What one machine does in a tick."""
    if machine.works and machine.left > 1:
        machine.left = machine.left - 1
    elif machine.works:
        bring_out(state, machine)
    elif machine.ordered > 0:
        begin(state, machine)


def bring_out(state, machine):
    """Put what was made into the machine's bag; without room there it waits with it."""
    machine.left = 0
    makes = state.recipes[machine.recipe].makes
    if put_if_it_fits(state, machine.puts_into, makes, 1):
        machine.made = machine.made + 1
        machine.works = False


def begin(state, machine):
    """Take what the recipe needs and work, if all of it is there."""
    recipe = state.recipes[machine.recipe]
    stacks = state.bags[machine.takes_from].stacks
    if all([count_in(stacks, good) >= many for good, many in recipe.needs]):
        take_needs(state, machine.takes_from, recipe.needs, 1)
        machine.ordered = machine.ordered - 1
        machine.works = True
        machine.left = recipe.ticks
