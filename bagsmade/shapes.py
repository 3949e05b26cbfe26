"""How calls stand in a list of numbers, and which numbers each may have."""

# By a call's number: the least and the greatest of each of its plain numbers.
PLAIN_RANGES = {
    0: (),
    1: ((0, 9), (1, 1000), (1, 50)),
    2: ((-1, 11), (0, 1000000), (0, 1000), (0, 40)),
    3: ((0, 11), (0, 9), (1, 10000)),
    4: ((0, 11), (0, 9), (1, 10000)),
    5: ((0, 11), (0, 11), (0, 9), (1, 10000)),
    6: ((0, 11), (-1, 11)),
    7: ((0, 11),),
    8: ((0, 11),),
    9: ((0, 11), (0, 9)),
    10: (),
    11: (),
    12: ((0, 11), (0, 9), (1, 100)),
    13: ((0, 11), (0, 9), (1, 100)),
    14: ((0, 11), (0, 11), (0, 15)),
    15: ((0, 5), (1, 1000)),
    16: ((1, 100),),
    17: ((0, 5),),
    18: ((0, 9),),
    19: (),
    20: ((0, 9),),
}

# By a call's number, if it has a row: the row's least and greatest length, and
# the ranges of one group's numbers; a row is made of whole groups.
ROW_RANGES = {
    0: (3, 30, ((1, 1000), (1, 100), (0, 1000))),
    1: (0, 8, ((0, 9), (1, 9))),
    11: (0, 10, ((0, 1000000000000000000),)),
}


class Call:
    """One call: its number, its plain numbers, and its row (empty if it has none)."""

    def __init__(self, number, plain, row):
        self.number = number
        self.plain = plain
        self.row = row


def cut_into_calls(numbers):
    """The calls that stand one behind another in the list."""
    found = []
    at = 0
    while at < len(numbers):
        number = numbers[at]
        behind = at + 1 + len(PLAIN_RANGES[number])
        plain = numbers[at + 1:behind]
        row = []
        if number in ROW_RANGES:
            row = numbers[behind + 1:behind + 1 + numbers[behind]]
            behind = behind + 1 + len(row)
        found.append(Call(number, plain, row))
        at = behind
    return found


def within_ranges(call):
    """Whether all numbers of the call, and its row's length, are among those told."""
    if not each_within(call.plain, PLAIN_RANGES[call.number]):
        return False
    if call.number not in ROW_RANGES:
        return True
    shape = ROW_RANGES[call.number]
    group = shape[2]
    if len(call.row) < shape[0] or len(call.row) > shape[1] or len(call.row) % len(group) != 0:
        return False
    return each_within(call.row, group)


def each_within(numbers, ranges):
    """Whether each number is in its range; the ranges begin anew when they end."""
    for k, number in enumerate(numbers):
        limits = ranges[k % len(ranges)]
        if number < limits[0] or number > limits[1]:
            return False
    return True
