"""Calls by their names, and a base for tests that ask `answers`."""

import random
import unittest

from bagsmade.world import answers

GROUND = -1
FAR = 1000000000000000000
RANGES = {
    "b": (0, 11), "a": (0, 11), "to": (-1, 11), "g": (0, 9), "n": (1, 10000), "cost": (1, 1000), "ticks": (1, 50),
    "room": (0, 1000000), "own": (0, 1000), "places": (0, 40), "few": (1, 100), "recipe": (0, 15), "machine": (0, 5),
    "ordered": (1, 1000), "ticks_more": (1, 100),
}
# A bag, a good and how many, for plan or make, with one of them outside its range.
OUTSIDE_PLANS = (
    (-1, 0, 1), (12, 0, 1), (0, -1, 1), (0, 10, 1), (0, 0, 0), (0, 0, -1), (0, 0, 101), (FAR, 0, 1), (-FAR, 0, 1),
    (0, FAR, 1), (0, -FAR, 1), (0, 0, FAR), (0, 0, -FAR),
)
# The plain numbers of each call, by what they stand for.
SHAPES = {
    0: (), 1: ("g", "cost", "ticks"), 2: ("to", "room", "own", "places"), 3: ("b", "g", "n"), 4: ("b", "g", "n"),
    5: ("a", "b", "g", "n"), 6: ("a", "to"), 7: ("b",), 8: ("b",), 9: ("b", "g"), 10: (), 11: (), 12: ("b", "g", "few"),
    13: ("b", "g", "few"), 14: ("a", "b", "recipe"), 15: ("machine", "ordered"), 16: ("ticks_more",), 17: ("machine",),
    18: ("g",), 19: (), 20: ("g",),
}


def goods(*told):
    return [0, len(told), *told]


def priced(*prices):
    """Goods of which just the prices matter."""
    return goods(*[number for price in prices for number in (1, 1, price)])


def recipe(g, cost, ticks, *needs):
    return [1, g, cost, ticks, len(needs), *needs]


def bag(b, room, own_weight, places):
    return [2, b, room, own_weight, places]


def put(b, g, n):
    return [3, b, g, n]


def take(b, g, n):
    return [4, b, g, n]


def move(a, b, g, n):
    return [5, a, b, g, n]


def carry(a, b):
    return [6, a, b]


def stacks(b):
    return [7, b]


def load(b):
    return [8, b]


def fits(b, g):
    return [9, b, g]


def costs():
    return [10]


def fair(*prices):
    return [11, len(prices), *prices]


def plan(b, g, n):
    return [12, b, g, n]


def make(b, g, n):
    return [13, b, g, n]


def machine(a, b, made_by):
    return [14, a, b, made_by]


def order(number, n):
    return [15, number, n]


def tick(n):
    return [16, n]


def state(number):
    return [17, number]


def count(g):
    return [18, g]


def totals():
    return [19]


def find(g):
    return [20, g]


def flat(calls):
    return [number for call in calls for number in call]


def apart(told):
    """The answers of one list, each as a list of its own."""
    found = []
    at = 0
    while at < len(told):
        found.append(told[at + 1:at + 1 + told[at]])
        at += 1 + told[at]
    return found


def run(calls):
    """The answer of each call of one line."""
    assert 1 <= len(calls) <= 200
    return apart(answers(flat(calls)))


def drawn_world(draw):
    """Some goods and recipes by chance, and one bag with much room."""
    most = draw.randint(1, 6)
    told = [number for g in range(most) for number in (1, 100, draw.choice([0, 0, draw.randint(1, 30)]))]
    line = [goods(*told)]
    for k in range(draw.randint(0, 9)):
        needed = draw.sample(range(most), draw.randint(0, min(4, most)))
        needs = [number for g in needed for number in (g, draw.randint(1, 3))]
        line.append(recipe(draw.randrange(most), draw.randint(1, 9), draw.randint(1, 3), *needs))
    return line + [bag(GROUND, 1000000, 0, 40)]


def views():
    """Lists of calls that together ask all there is to ask; the last shows by what comes next what can't be asked."""
    bags = [costs(), totals()]
    for b in range(12):
        bags += [stacks(b), load(b)] + [fits(b, g) for g in range(10)]
    others = [totals()] + [state(k) for k in range(6)]
    others += [call for g in range(10) for call in (count(g), find(g))]
    others += [plan(b, g, 3) for b in range(12) for g in range(10)]
    following = [order(k, 5) for k in range(6)]
    for turn in range(5):
        following += [tick(turn + 1)] + [state(k) for k in range(6)] + [stacks(b) for b in range(12)]
    following += [recipe(0, 1, 1), bag(GROUND, 0, 0, 0), machine(0, 0, 0), goods(1, 1, 1), totals()]
    return [bags, others, following]


class Chance:
    """Draws calls, as a number, plain numbers and a row, that are often fine, and now and then wrong."""

    def __init__(self, seed):
        self.draw = random.Random(seed)
        self.goods = self.draw.randint(1, 5)
        self.bags = self.draw.randint(1, 4)
        self.recipes = self.draw.randint(1, 6)
        self.machines = self.draw.randint(0, 4)
        self.usual = {
            "b": (0, self.bags - 1), "a": (0, self.bags - 1), "to": (-1, self.bags - 1), "g": (0, self.goods - 1),
            "n": (1, 6), "cost": (1, 9), "ticks": (1, 3), "room": (20, 200), "own": (0, 9), "places": (3, 9),
            "few": (1, 7), "recipe": (0, self.recipes - 1), "machine": (0, max(0, self.machines - 1)),
            "ordered": (1, 6), "ticks_more": (1, 6),
        }

    def number(self, name):
        if self.draw.randrange(80) == 0:
            low, high = RANGES[name]
            return self.draw.choice([low - 1, low, high, high + 1])
        return self.draw.randint(*self.usual[name])

    def row(self, number, plain):
        if number == 0:
            prices = [0 if g > 0 and self.draw.randrange(4) > 0 else self.draw.randint(0, 9) for g in range(self.goods)]
            return [number for price in prices for number in (self.draw.randint(1, 5), self.draw.randint(1, 6), price)]
        if number == 1:
            below = plain[0] if 0 < plain[0] < self.goods and self.draw.randrange(4) > 0 else self.goods
            needed = self.draw.sample(range(below), min(self.draw.choice([0, 1, 1, 2, 2, 3]), below))
            row = [number for g in needed for number in (g, self.draw.randint(1, 2))]
            wrong = self.draw.randrange(40)
            return row[1:] if wrong == 0 else row + row[:2] if wrong == 1 else row
        if number == 11:
            length = self.goods if self.draw.randrange(10) > 0 else self.draw.randint(0, 12)
            return [self.draw.randint(0 if self.draw.randrange(40) > 0 else -1, 12) for k in range(length)]
        return []

    def call(self, number):
        plain = [self.number(name) for name in SHAPES[number]]
        return number, plain, self.row(number, plain)

    def line(self, length):
        """Goods, some of all else, and then whatever comes."""
        first = [self.call(0)] if self.draw.randrange(20) > 0 else []
        first += [self.call(1) for k in range(self.recipes)]
        first += [(2, [GROUND] + self.call(2)[1][1:], []) for k in range(self.bags)]
        first += [self.call(3) for k in range(3)]
        first += [self.call(14) for k in range(self.machines)]
        often = {0: 1, 1: 1, 2: 1, 3: 12, 4: 6, 5: 7, 6: 7, 7: 2, 8: 2, 9: 2, 10: 1, 11: 2, 12: 5, 13: 7, 14: 1, 15: 6,
                 16: 10, 17: 4, 18: 2, 19: 2, 20: 2}
        later = self.draw.choices(list(often), weights=list(often.values()), k=length - len(first))
        return first + [self.call(number) for number in later]


def as_numbers(call):
    number, plain, row = call
    return [number, *plain] + ([len(row), *row] if number in (0, 1, 11) else [])


class Case(unittest.TestCase):
    def answered(self, calls, answer):
        """The last of the calls has this answer."""
        self.assertEqual(run(calls)[-1], answer)

    def answered_all(self, calls, told):
        """The last calls, as many as are told, have these answers."""
        self.assertEqual(run(calls)[-len(told):], told)

    def unchanged(self, before, call, answer):
        """The call has this answer behind the others, and changes nothing."""
        for view in views():
            told = run(before + [call] + view)
            self.assertEqual(told[len(before)], answer)
            self.assertEqual(told[len(before) + 1:], run(before + view)[len(before):])

    def refused(self, before, call, number):
        """The call is refused so behind the others, and changes nothing."""
        self.unchanged(before, call, [number])
