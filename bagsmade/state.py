"""What is kept between the calls of one list."""

GROUND = -1


class Good:
    """One sort of good."""

    def __init__(self, weight, size, price):
        self.weight = weight
        self.size = size
        self.price = price


class Recipe:
    """How one of a good is made; needs are pairs of a good and how many."""

    def __init__(self, makes, cost, ticks, needs):
        self.makes = makes
        self.cost = cost
        self.ticks = ticks
        self.needs = needs


class Bag:
    """A bag; stacks are pairs of a good and how many."""

    def __init__(self, inside, room, own_weight, places):
        self.inside = inside
        self.room = room
        self.own_weight = own_weight
        self.places = places
        self.stacks = []
        # Kept beside the stacks, so that asking a bag deep in others need not weigh all of them anew.
        self.held = 0


class Machine:
    """A machine; recipe is a number, and no ticks are left while it waits for room or is idle."""

    def __init__(self, takes_from, puts_into, recipe):
        self.takes_from = takes_from
        self.puts_into = puts_into
        self.recipe = recipe
        self.ordered = 0
        self.works = False
        self.left = 0
        self.made = 0


class State:
    """All goods, recipes, bags and machines, each by its number; what was paid, and the ticks gone by."""

    def __init__(self):
        self.goods = []
        self.recipes = []
        self.bags = []
        self.machines = []
        self.paid = 0
        self.ticks = 0


def lacks_good(state, good):
    """Whether there is no such good."""
    return good >= len(state.goods)


def lacks_bag(state, b):
    """Whether there is no such bag; the ground is always there."""
    return b >= len(state.bags)


def lacks_recipe(state, recipe):
    """Whether there is no such recipe."""
    return recipe >= len(state.recipes)


def lacks_machine(state, machine):
    """Whether there is no such machine."""
    return machine >= len(state.machines)
