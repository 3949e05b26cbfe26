"""Lines by chance, against a slow model that goes by the document word for word."""

import copy
import random
import unittest

from helper import GROUND, flat, run

RANGES = {
    "b": (0, 11), "a": (0, 11), "to": (-1, 11), "g": (0, 9), "n": (1, 10000), "cost": (1, 1000), "ticks": (1, 50),
    "room": (0, 1000000), "own": (0, 1000), "places": (0, 40),
}
SHAPES = {
    1: ("g", "cost", "ticks"), 2: ("to", "room", "own", "places"), 3: ("b", "g", "n"), 4: ("b", "g", "n"),
    5: ("a", "b", "g", "n"), 6: ("a", "to"), 7: ("b",), 8: ("b",), 9: ("b", "g"), 10: (),
}


class Model:
    """Goods lie in their stacks one by one; all bags are weighed anew after each change."""

    def __init__(self):
        self.goods = []
        self.recipes = []
        self.bags = []

    def holds(self, b):
        total = sum(self.goods[g][0] for stack in self.bags[b]["stacks"] for g in stack)
        return total + sum(self.weighs(k) for k in self.inside(b))

    def weighs(self, b):
        return self.bags[b]["own"] + self.holds(b)

    def inside(self, b):
        return [k for k, bag in enumerate(self.bags) if bag["in"] == b]

    def taken(self, b):
        return len(self.bags[b]["stacks"]) + len(self.inside(b))

    def in_a_ring(self, b):
        at = self.bags[b]["in"]
        for step in range(len(self.bags)):
            if at == GROUND:
                return False
            at = self.bags[at]["in"]
        return True

    def in_order(self):
        if any(self.in_a_ring(b) for b in range(len(self.bags))):
            return False
        return all(self.holds(b) <= bag["room"] and self.taken(b) <= bag["places"] for b, bag in enumerate(self.bags))

    def put_one(self, b, g):
        for stack in self.bags[b]["stacks"]:
            if stack[0] == g and len(stack) < self.goods[g][1]:
                stack.append(g)
                return
        self.bags[b]["stacks"].append([g])

    def take_one(self, b, g):
        stacks = self.bags[b]["stacks"]
        last = max(k for k, stack in enumerate(stacks) if stack[0] == g)
        stacks[last].pop()
        if not stacks[last]:
            stacks.pop(last)

    def has(self, b, g):
        return sum(stack.count(g) for stack in self.bags[b]["stacks"])

    def cost(self, g, above=()):
        """The least over all ways that make no good on the way to itself; None: there is none."""
        ways = [self.goods[g][2]] if self.goods[g][2] > 0 else []
        for makes, cost, needs in self.recipes:
            if makes == g and g not in above:
                parts = [self.cost(k, above + (g,)) for k, many in needs]
                if None not in parts:
                    ways.append(cost + sum(part * many for part, (k, many) in zip(parts, needs)))
        return min(ways, default=None)

    def out_of_range(self, number, plain, row):
        for name, value in zip(SHAPES.get(number, ()), plain):
            if not RANGES[name][0] <= value <= RANGES[name][1]:
                return True
        if number == 0:
            threes = list(zip(row[::3], row[1::3], row[2::3]))
            fine = all(1 <= w <= 1000 and 1 <= s <= 100 and 0 <= p <= 1000 for w, s, p in threes)
            return not (len(row) in range(3, 31, 3) and fine)
        if number == 1:
            twos = list(zip(row[::2], row[1::2]))
            return not (len(row) in range(0, 9, 2) and all(0 <= g <= 9 and 1 <= n <= 9 for g, n in twos))
        return False

    def no_such(self, number, named, row):
        lacking = [named[k] for k in ("a", "b", "to") if k in named and named[k] >= len(self.bags)]
        asked = [named["g"]] if "g" in named else []
        if number == 1:
            asked += row[::2]
        return bool(lacking) or any(g >= len(self.goods) for g in asked)

    def answer(self, number, plain, row):
        """Each refusal is asked for itself, where it has a meaning."""
        if self.out_of_range(number, plain, row):
            return [-1]
        if number == 0:
            if self.goods:
                return [-5]
            self.goods = list(zip(row[::3], row[1::3], row[2::3]))
            return [0, len(self.goods)]
        named = dict(zip(SHAPES[number], plain))
        due = [-2] if not self.goods else []
        due += [-3] if self.no_such(number, named, row) else []
        due += [-4] if (number == 1 and len(self.recipes) == 16) or (number == 2 and len(self.bags) == 12) else []
        due += [-7] if number == 1 and len(set(row[::2])) < len(row[::2]) else []
        if due:
            return [max(due)]
        before = copy.deepcopy(self.bags)
        told = getattr(self, "call_" + str(number))(named, row)
        if not self.in_order():
            told = [-6]
        if told[0] < 0:
            self.bags = before
        return told

    def call_1(self, named, row):
        self.recipes.append((named["g"], named["cost"], list(zip(row[::2], row[1::2]))))
        return [0, len(self.recipes) - 1]

    def call_2(self, named, row):
        self.bags.append({"in": named["to"], "room": named["room"], "own": named["own"], "places": named["places"],
                          "stacks": []})
        return [0, len(self.bags) - 1]

    def call_3(self, named, row):
        for k in range(named["n"]):
            self.put_one(named["b"], named["g"])
        return [0]

    def call_4(self, named, row):
        if self.has(named["b"], named["g"]) < named["n"]:
            return [-8]
        for k in range(named["n"]):
            self.take_one(named["b"], named["g"])
        return [0, self.has(named["b"], named["g"])]

    def call_5(self, named, row):
        if self.has(named["a"], named["g"]) < named["n"]:
            return [-8]
        for k in range(named["n"]):
            self.take_one(named["a"], named["g"])
        return self.call_3(named, row)

    def call_6(self, named, row):
        self.bags[named["a"]]["in"] = named["to"]
        return [0]

    def call_7(self, named, row):
        return [0] + [k for stack in self.bags[named["b"]]["stacks"] for k in (stack[0], len(stack))]

    def call_8(self, named, row):
        b = named["b"]
        bag = self.bags[b]
        return [0, self.weighs(b), bag["room"] - self.holds(b), self.taken(b), bag["in"]]

    def call_9(self, named, row):
        before = copy.deepcopy(self.bags)
        many = -1
        while self.in_order():
            many += 1
            self.put_one(named["b"], named["g"])
        self.bags = before
        return [0, many]

    def call_10(self, named, row):
        return [0] + [self.cost(g) or 0 for g in range(len(self.goods))]


class Chance:
    """Draws calls that are often fine, and now and then wrong."""

    def __init__(self, seed):
        self.draw = random.Random(seed)
        self.most = self.draw.randint(1, 4)
        self.usual = {
            "b": (0, 4), "a": (0, 4), "to": (-1, 4), "g": (0, self.most - 1), "n": (1, 9), "cost": (1, 9),
            "ticks": (1, 3), "room": (0, 150), "own": (0, 9), "places": (0, 6),
        }

    def number(self, name):
        if self.draw.randrange(60) == 0:
            low, high = RANGES[name]
            return self.draw.choice([low - 1, low, high, high + 1])
        return self.draw.randint(*self.usual[name])

    def row(self, number):
        if number == 0:
            return [self.draw.randint(*ends) for g in range(self.most) for ends in ((1, 5), (1, 6), (0, 9))]
        if number == 1:
            row = []
            for k in range(self.draw.choice([0, 1, 1, 2, 2, 3])):
                row += [self.number("g"), self.draw.randint(1, 3)]
            return row[1:] if self.draw.randrange(40) == 0 else row
        return []

    def call(self):
        kinds = [0, 1, 1, 1, 2, 2, 2] + [3] * 8 + [4] * 5 + [5] * 6 + [6] * 6 + [7, 7, 8, 8, 9, 9, 10]
        number = self.draw.choice(kinds)
        return number, [self.number(name) for name in SHAPES.get(number, ())], self.row(number)

    def line(self, length):
        told = [(0, [], self.row(0))] if self.draw.randrange(20) > 0 else []
        return told + [self.call() for k in range(length)]


def as_numbers(call):
    number, plain, row = call
    return [number, *plain] + ([len(row), *row] if number in (0, 1) else [])


class AgainstModel(unittest.TestCase):
    def test_lines_by_chance(self):
        seen = set()
        for seed in range(150):
            line = Chance(seed).line(100)
            model = Model()
            expected = [model.answer(*call) for call in line]
            told = run([as_numbers(call) for call in line])
            for k, call in enumerate(line):
                self.assertEqual(told[k], expected[k], (seed, k, flat([as_numbers(c) for c in line[:k + 1]])))
                seen.add((call[0], min(told[k][0], 0)))
        wanted = {(1, -7), (2, -6), (3, -6), (4, -8), (5, -6), (5, -8), (6, -6)}
        self.assertLessEqual(wanted | {(number, 0) for number in range(11)}, seen)


class Kept(unittest.TestCase):
    """What promises 1 and 5 say, asked of the answers alone."""

    def test_nothing_comes_from_nothing_and_nothing_is_lost(self):
        for seed in range(60):
            chance = Chance(1000 + seed)
            line = chance.line(90)
            asked = [(7, [b], []) for b in range(12)] + [(8, [b], []) for b in range(12)]
            told = run([as_numbers(call) for call in line + asked])
            there = [0] * 10
            for call, answer in zip(line, told):
                if call[0] in (3, 4) and answer[0] == 0:
                    there[call[1][1]] += call[1][2] if call[0] == 3 else -call[1][2]
            found = [0] * 10
            for answer in told[len(line):len(line) + 12]:
                for k in range(1, len(answer), 2):
                    found[answer[k]] += answer[k + 1]
            self.assertEqual(found, there, seed)
            for answer in told[len(line) + 12:]:
                if answer[0] == 0:
                    self.assertGreaterEqual(answer[2], 0, seed)
