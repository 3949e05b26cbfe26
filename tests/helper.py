"""Calls by their names, and a base for tests that ask `answers`."""

import unittest

from bagsmade.world import answers

GROUND = -1
FAR = 1000000000000000000


def goods(*told):
    return [0, len(told), *told]


def recipe(g, cost, ticks, *needs):
    return [1, g, cost, ticks, len(needs), *needs]


def bag(b, room, own_weight, places):
    return [2, b, room, own_weight, places]


def put(b, g, n):
    return [3, b, g, n]


def take(b, g, n):
    return [4, b, g, n]


def move(a, b, g, n):
    return [5, a, b, g, n]


def carry(a, b):
    return [6, a, b]


def stacks(b):
    return [7, b]


def load(b):
    return [8, b]


def fits(b, g):
    return [9, b, g]


def costs():
    return [10]


def flat(calls):
    return [number for call in calls for number in call]


def apart(told):
    """The answers of one list, each as a list of its own."""
    found = []
    at = 0
    while at < len(told):
        found.append(told[at + 1:at + 1 + told[at]])
        at += 1 + told[at]
    return found


def run(calls):
    """The answer of each call of one line."""
    return apart(answers(flat(calls)))


def view():
    """Calls that ask all there is to ask, and at last how many goods, recipes and bags there are."""
    asked = [costs()]
    for b in range(12):
        asked += [stacks(b), load(b)] + [fits(b, g) for g in range(10)]
    return asked + [goods(1, 1, 1), recipe(0, 1, 1), bag(GROUND, 0, 0, 0)]


class Case(unittest.TestCase):
    def answered(self, calls, answer):
        """The last of the calls has this answer."""
        self.assertEqual(run(calls)[-1], answer)

    def answered_all(self, calls, told):
        """The last calls, as many as are told, have these answers."""
        self.assertEqual(run(calls)[-len(told):], told)

    def refused(self, before, call, number):
        """The call is refused so behind the others, and changes nothing."""
        told = run(before + [call] + view())
        self.assertEqual(told[len(before)], [number])
        self.assertEqual(told[len(before) + 1:], run(before + view())[len(before):])
