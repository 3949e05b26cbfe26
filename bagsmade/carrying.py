"""What bags hold, what they could hold, and what changes it."""

from bagsmade.stacking import emptied, filled_up, space_in
from bagsmade.state import GROUND


def bags_around(state, b):
    """The numbers of the bag b and of all bags around it; of none for the ground."""
    around = []
    at = b
    while at != GROUND:
        around.append(at)
        at = state.bags[at].inside
    return around


def weight_of_bag(state, b):
    """What the bag weighs, with all that it holds."""
    bag = state.bags[b]
    return bag.own_weight + bag.held


def places_taken(state, b):
    """How many places the bag's stacks and the bags right in it take."""
    right_in_it = [bag for bag in state.bags if bag.inside == b]
    return len(state.bags[b].stacks) + len(right_in_it)


def weight_left(state, b):
    """What more each bag can hold, of the bag b and those around it."""
    around = [state.bags[k] for k in bags_around(state, b)]
    return [bag.room - bag.held for bag in around]


def how_many_fit(state, b, good):
    """How many more of the good can be put into the bag."""
    told = state.goods[good]
    bag = state.bags[b]
    free = bag.places - places_taken(state, b)
    by_places = space_in(bag.stacks, good, told.size) + free * told.size
    return min([by_places] + [left // told.weight for left in weight_left(state, b)])


def bag_fits(state, b, weight):
    """Whether one more bag of this weight can lie in b; on the ground it always can."""
    if b == GROUND:
        return True
    if places_taken(state, b) >= state.bags[b].places:
        return False
    return all([weight <= left for left in weight_left(state, b)])


def add_load(state, b, weight):
    """The bag b and all around it hold so much more (less, if it is below 0)."""
    for k in bags_around(state, b):
        bag = state.bags[k]
        bag.held = bag.held + weight


def put_in(state, b, good, many):
    """Put so many into the bag, which has room for them."""
    told = state.goods[good]
    bag = state.bags[b]
    bag.stacks = filled_up(bag.stacks, good, told.size, many)
    add_load(state, b, many * told.weight)


def take_out(state, b, good, many):
    """Take so many from the bag, which has them."""
    bag = state.bags[b]
    bag.stacks = emptied(bag.stacks, good, many)
    add_load(state, b, -many * state.goods[good].weight)


def put_if_it_fits(state, b, good, many):
    """Put so many into the bag if there is room for all of them; whether there was."""
    if many > how_many_fit(state, b, good):
        return False
    put_in(state, b, good, many)
    return True


def take_needs(state, b, needs, times):
    """Take all of the needs, so many times, from the bag, which has them."""
    for good, many in needs:
        take_out(state, b, good, times * many)


def put_back(state, b, stacks, held):
    """The bag has the stacks again that it had when it held so much."""
    bag = state.bags[b]
    bag.stacks = stacks
    add_load(state, b, held - bag.held)


def lay_bag(state, a, b):
    """Lay the bag a, wherever it lies, into b or on the ground."""
    bag = state.bags[a]
    weight = weight_of_bag(state, a)
    add_load(state, bag.inside, -weight)
    bag.inside = b
    add_load(state, b, weight)
