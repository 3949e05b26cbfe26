"""Stacks of goods, pairs of a good and how many, without the bags around them."""


def count_in(stacks, good):
    """How many of the good the stacks have together."""
    return sum([many for kept, many in stacks if kept == good])


def space_in(stacks, good, size):
    """How many more of the good fill up its stacks, with no new one."""
    return sum([size - many for kept, many in stacks if kept == good])


def filled_up(stacks, good, size, many):
    """The stacks when so many have been put to them, the first first, then in new ones."""
    left = many
    after = []
    for kept, held in stacks:
        added = 0
        if kept == good:
            added = min(left, size - held)
        left = left - added
        after.append((kept, held + added))
    while left > 0:
        added = min(left, size)
        left = left - added
        after.append((good, added))
    return after


def emptied(stacks, good, many):
    """The stacks when so many have been taken from them, the last first."""
    left = many
    after = []
    for kept, held in reversed(stacks):
        gone = 0
        if kept == good:
            gone = min(left, held)
        left = left - gone
        if held > gone:
            after.append((kept, held - gone))
    return list(reversed(after))
