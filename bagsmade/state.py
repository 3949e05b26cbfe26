"""What is kept between the calls of one list."""

GROUND = -1


class Good:
    """One sort of good."""

    def __init__(self, weight, size, price):
        self.weight = weight
        self.size = size
        self.price = price


class Recipe:
    """How one of a good is made; needs are pairs of a good and how many."""

    def __init__(self, makes, cost, ticks, needs):
        self.makes = makes
        self.cost = cost
        self.ticks = ticks
        self.needs = needs


class Bag:
    """A bag; stacks are pairs of a good and how many."""

    def __init__(self, inside, room, own_weight, places):
        self.inside = inside
        self.room = room
        self.own_weight = own_weight
        self.places = places
        self.stacks = []
        # Kept beside the stacks, so that asking a bag deep in others need not weigh all of them anew.
        self.held = 0


class State:
    """All goods, recipes and bags, each by its number."""

    def __init__(self):
        self.goods = []
        self.recipes = []
        self.bags = []


def lacks_good(state, good):
    """Whether there is no such good."""
    return good >= len(state.goods)


def lacks_bag(state, b):
    """Whether there is no such bag; the ground is always there."""
    return b >= len(state.bags)
