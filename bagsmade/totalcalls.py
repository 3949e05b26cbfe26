"""The calls that ask about all bags, or all there is, together; ranges have been asked before."""

from bagsmade.refusals import NO_SUCH
from bagsmade.stacking import count_in
from bagsmade.state import lacks_good


def tell_count(state, good):
    """Call 18: how many of the good there are in all bags together."""
    if lacks_good(state, good):
        return [NO_SUCH]
    return [0, sum([count_in(bag.stacks, good) for bag in state.bags])]


def tell_totals(state):
    """Call 19: how many there are of each kind, what has been paid, and the ticks gone by."""
    return [0, len(state.goods), len(state.recipes), len(state.bags), len(state.machines), state.paid, state.ticks]


def tell_find(state, good):
    """Call 20: the bags that have some of the good right in them."""
    if lacks_good(state, good):
        return [NO_SUCH]
    return [0] + [b for b, bag in enumerate(state.bags) if count_in(bag.stacks, good) > 0]
