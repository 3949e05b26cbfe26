"""The promises over the whole program, asked of the answers alone behind every call of long mixed lines."""

import unittest

from bagsmade.world import answers
from helper import GROUND, Chance, as_numbers, count, find, flat, load, plan, run, stacks, state, totals

ASKED = [stacks(b) for b in range(12)] + [load(b) for b in range(12)] + [count(g) for g in range(10)]
ASKED += [find(g) for g in range(10)] + [state(k) for k in range(6)] + [totals()]
PUT, TAKE, MAKE, TICK = 3, 4, 13, 16
CHANGING = (0, 1, 2, 3, 4, 5, 6, 13, 14, 15, 16)


def fine(told):
    """The answers that are no refusals, without their 0."""
    return [answer[1:] for answer in told if answer[0] == 0]


class View:
    """All that is asked behind some calls."""

    def __init__(self, before):
        told = run(before + ASKED)
        self.last = told[len(before) - 1] if before else None
        self.asked = told[len(before):]
        self.stacks = [list(zip(row[::2], row[1::2])) for row in fine(self.asked[:12])]
        self.loads = fine(self.asked[12:24])
        self.counts = [row[0] for row in fine(self.asked[24:34])]
        self.found = fine(self.asked[34:44])
        self.machines = fine(self.asked[44:50])
        self.totals = self.asked[50][1:]


class Told:
    """What the calls that were not refused have told of goods, recipes and bags."""

    def __init__(self):
        self.goods = []
        self.recipes = []
        self.bags = []

    def add(self, call):
        number, plain, row = call
        if number == 0:
            self.goods = list(zip(row[::3], row[1::3], row[2::3]))
        if number == 1:
            self.recipes.append((plain[0], list(zip(row[::2], row[1::2]))))
        if number == 2:
            self.bags.append(plain[1:])


class Promises(unittest.TestCase):
    def test_behind_every_call(self):
        seen = set()
        for seed in range(30):
            line = Chance(2000 + seed).line(149)
            calls = [as_numbers(call) for call in line]
            told = Told()
            before = View([])
            for k, call in enumerate(line):
                after = View(calls[:k + 1])
                with self.subTest(seed=seed, k=k, call=call):
                    if after.last[0] < 0 or call[0] not in CHANGING:
                        self.assertEqual(after.asked, before.asked)
                    else:
                        told.add(call)
                        self.nothing_from_nothing(told, calls[:k], call, before, after)
                    self.bags_hold_what_they_can(told, after)
                    self.all_answers_agree(told, after)
                seen.add((call[0], min(after.last[0], 0)))
                before = after
        self.assertLessEqual({(number, 0) for number in range(21)} | {(MAKE, -6), (MAKE, -9), (6, -6)}, seen)

    def bags_hold_what_they_can(self, told, view):
        """Promise 1, with all weighed anew from the stacks."""
        inside = [row[3] for row in view.loads]
        held = [sum(told.goods[g][0] * many for g, many in there) for there in view.stacks]
        places = [len(there) for there in view.stacks]
        for b, at in enumerate(inside):
            if at != GROUND:
                places[at] += 1
            weight = told.bags[b][1] + sum(told.goods[g][0] * many for g, many in view.stacks[b])
            steps = 0
            while at != GROUND:
                held[at] += weight
                at = inside[at]
                steps += 1
                self.assertLess(steps, len(inside), "bags are in a ring")
        for b, (room, own, most) in enumerate(told.bags):
            self.assertLessEqual(held[b], room)
            self.assertLessEqual(places[b], most)
            self.assertEqual(view.loads[b], [own + held[b], room - held[b], places[b], inside[b]])
            for g, many in view.stacks[b]:
                self.assertTrue(1 <= many <= told.goods[g][1])

    def all_answers_agree(self, told, view):
        there = [[sum(many for kept, many in row if kept == g) for row in view.stacks] for g in range(len(told.goods))]
        self.assertEqual(view.counts, [sum(row) for row in there])
        self.assertEqual(view.found, [[b for b, many in enumerate(row) if many > 0] for row in there])
        self.assertEqual(view.totals[:4], [len(told.goods), len(told.recipes), len(told.bags), len(view.machines)])

    def nothing_from_nothing(self, told, earlier, call, before, after):
        """Promise 5: the counts change by just what was put, taken, bought and made; so does what was paid."""
        number, plain, row = call
        change = [0] * len(told.goods)
        paid = 0
        if number == PUT:
            change[plain[1]] += plain[2]
        if number == TAKE:
            change[plain[1]] -= plain[2]
        if number == MAKE:
            planned = run(earlier + [plan(*plain)])[-1]
            paid = planned[1]
            self.assertEqual(after.last, [0, paid])
            for at in range(4, 4 + 3 * planned[3], 3):
                deed, which, many = planned[at:at + 3]
                if deed == 0:
                    change[which] += many
                else:
                    self.made(change, told.recipes[which], many, many)
        if number == TICK:
            for old, new in zip(before.machines, after.machines):
                self.made(change, told.recipes[old[2]], old[3] - new[3], new[6] - old[6])
                self.assertEqual(new[4] - old[4], (old[3] - new[3]) - (new[6] - old[6]))
        counted = before.counts if before.counts else change
        self.assertEqual(after.counts, [old + more for old, more in zip(counted, change)])
        self.assertEqual(after.totals[4], before.totals[4] + paid)
        self.assertEqual(after.totals[5], before.totals[5] + (plain[0] if number == TICK else 0))

    def made(self, change, recipe, begun, done):
        makes, needs = recipe
        for good, many in needs:
            change[good] -= many * begun
        change[makes] += done


class NothingKept(unittest.TestCase):
    def test_long_mixed_lines_twice(self):
        lines = [flat([as_numbers(call) for call in Chance(3000 + seed).line(200)]) for seed in range(20)]
        handed = [list(line) for line in lines]
        first = [answers(line) for line in lines]
        again = [answers(line) for line in reversed(lines)]
        self.assertEqual(first, again[::-1])
        self.assertEqual(lines, handed)
