"""The calls that change bags or ask about them; ranges have been asked before."""

from bagsmade.carrying import add_load, bag_fits, bags_around, how_many_fit, lay_bag
from bagsmade.carrying import places_taken, put_back, put_if_it_fits, take_out, weight_of_bag
from bagsmade.refusals import NO_MORE_ALLOWED, NO_ROOM, NO_SUCH, TOO_FEW
from bagsmade.stacking import count_in
from bagsmade.state import GROUND, Bag, lacks_bag, lacks_good

MOST_BAGS = 12


def new_bag(state, b, room, own_weight, places):
    """Call 2: a new empty bag in b or on the ground."""
    if lacks_bag(state, b):
        return [NO_SUCH]
    if len(state.bags) >= MOST_BAGS:
        return [NO_MORE_ALLOWED]
    if not bag_fits(state, b, own_weight):
        return [NO_ROOM]
    state.bags.append(Bag(b, room, own_weight, places))
    add_load(state, b, own_weight)
    return [0, len(state.bags) - 1]


def put(state, b, good, many):
    """Call 3: so many come into the bag."""
    if lacks_bag(state, b) or lacks_good(state, good):
        return [NO_SUCH]
    if not put_if_it_fits(state, b, good, many):
        return [NO_ROOM]
    return [0]


def take(state, b, good, many):
    """Call 4: so many go out of the bag."""
    if lacks_bag(state, b) or lacks_good(state, good):
        return [NO_SUCH]
    if many > count_in(state.bags[b].stacks, good):
        return [TOO_FEW]
    take_out(state, b, good, many)
    return [0, count_in(state.bags[b].stacks, good)]


def move(state, a, b, good, many):
    """Call 5: so many are taken from a, then put into b."""
    if lacks_bag(state, a) or lacks_bag(state, b) or lacks_good(state, good):
        return [NO_SUCH]
    stacks = state.bags[a].stacks
    held = state.bags[a].held
    if many > count_in(stacks, good):
        return [TOO_FEW]
    take_out(state, a, good, many)
    if not put_if_it_fits(state, b, good, many):
        # Not put like others: that could leave the stacks in another order.
        put_back(state, a, stacks, held)
        return [NO_ROOM]
    return [0]


def carry(state, a, b):
    """Call 6: the bag a lies in b now, or on the ground."""
    if lacks_bag(state, a) or lacks_bag(state, b):
        return [NO_SUCH]
    if a in bags_around(state, b):
        return [NO_ROOM]
    # Asked of b with a lying nowhere, so that what a weighs isn't counted twice
    # in the bags that are around it before and after.
    before = state.bags[a].inside
    lay_bag(state, a, GROUND)
    if not bag_fits(state, b, weight_of_bag(state, a)):
        lay_bag(state, a, before)
        return [NO_ROOM]
    lay_bag(state, a, b)
    return [0]


def tell_stacks(state, b):
    """Call 7: each stack's good and how many."""
    if lacks_bag(state, b):
        return [NO_SUCH]
    answer = [0]
    for good, many in state.bags[b].stacks:
        answer.extend([good, many])
    return answer


def tell_load(state, b):
    """Call 8: what the bag weighs, what it can hold still, its places taken, where it lies."""
    if lacks_bag(state, b):
        return [NO_SUCH]
    bag = state.bags[b]
    return [0, weight_of_bag(state, b), bag.room - bag.held, places_taken(state, b), bag.inside]


def tell_fits(state, b, good):
    """Call 9: how many more of the good can be put into the bag."""
    if lacks_bag(state, b) or lacks_good(state, good):
        return [NO_SUCH]
    return [0, how_many_fit(state, b, good)]
