"""Lines by chance, against a slow model that goes by the document word for word."""

import copy
import unittest

from helper import GROUND, RANGES, SHAPES, Chance, as_numbers, flat, run


class Model:
    """Goods lie in their stacks one by one; all bags are weighed anew after each change."""

    def __init__(self):
        self.goods = []
        self.recipes = []
        self.bags = []
        self.machines = []
        self.paid = 0
        self.ticks = 0

    def holds(self, b):
        total = sum(self.goods[g][0] for stack in self.bags[b]["stacks"] for g in stack)
        return total + sum(self.weighs(k) for k in self.inside(b))

    def weighs(self, b):
        return self.bags[b]["own"] + self.holds(b)

    def inside(self, b):
        return [k for k, bag in enumerate(self.bags) if bag["in"] == b]

    def taken(self, b):
        return len(self.bags[b]["stacks"]) + len(self.inside(b))

    def in_a_ring(self, b):
        at = self.bags[b]["in"]
        for step in range(len(self.bags)):
            if at == GROUND:
                return False
            at = self.bags[at]["in"]
        return True

    def in_order(self):
        if any(self.in_a_ring(b) for b in range(len(self.bags))):
            return False
        return all(self.holds(b) <= bag["room"] and self.taken(b) <= bag["places"] for b, bag in enumerate(self.bags))

    def put_many(self, b, g, n):
        """Whether all bags can hold them; if not, some may have been put."""
        for k in range(n):
            self.put_one(b, g)
            if self.taken(b) > self.bags[b]["places"]:
                return False
        return self.in_order()

    def put_one(self, b, g):
        for stack in self.bags[b]["stacks"]:
            if stack[0] == g and len(stack) < self.goods[g][1]:
                stack.append(g)
                return
        self.bags[b]["stacks"].append([g])

    def take_one(self, b, g):
        stacks = self.bags[b]["stacks"]
        last = max(k for k, stack in enumerate(stacks) if stack[0] == g)
        stacks[last].pop()
        if not stacks[last]:
            stacks.pop(last)

    def has(self, b, g):
        return sum(stack.count(g) for stack in self.bags[b]["stacks"])

    def cost(self, g, above=()):
        """The least over all ways that make no good on the way to itself; None: there is none."""
        ways = [self.goods[g][2]] if self.goods[g][2] > 0 else []
        for makes, cost, ticks, needs in self.recipes:
            if makes == g and g not in above:
                parts = [self.cost(k, above + (g,)) for k, many in needs]
                if None not in parts:
                    ways.append(cost + sum(part * many for part, (k, many) in zip(parts, needs)))
        return min(ways, default=None)

    def out_of_range(self, number, plain, row):
        for name, value in zip(SHAPES.get(number, ()), plain):
            if not RANGES[name][0] <= value <= RANGES[name][1]:
                return True
        if number == 0:
            threes = list(zip(row[::3], row[1::3], row[2::3]))
            fine = all(1 <= w <= 1000 and 1 <= s <= 100 and 0 <= p <= 1000 for w, s, p in threes)
            return not (len(row) in range(3, 31, 3) and fine)
        if number == 1:
            twos = list(zip(row[::2], row[1::2]))
            return not (len(row) in range(0, 9, 2) and all(0 <= g <= 9 and 1 <= n <= 9 for g, n in twos))
        return number == 11 and not (len(row) in range(11) and all(0 <= price <= 10 ** 18 for price in row))

    def no_such(self, number, named, row):
        lacking = [named[k] for k in ("a", "b", "to") if k in named and named[k] >= len(self.bags)]
        asked = [named["g"]] if "g" in named else []
        if number == 1:
            asked += row[::2]
        if named.get("recipe", -1) >= len(self.recipes) or named.get("machine", -1) >= len(self.machines):
            return True
        return bool(lacking) or any(g >= len(self.goods) for g in asked)

    def too_many(self, number):
        kept, most = {1: (self.recipes, 16), 2: (self.bags, 12), 14: (self.machines, 6)}.get(number, ((), 1))
        return len(kept) >= most

    def answer(self, number, plain, row):
        """Each refusal is asked for itself, where it has a meaning."""
        if self.out_of_range(number, plain, row):
            return [-1]
        if number == 0:
            if self.goods:
                return [-5]
            self.goods = list(zip(row[::3], row[1::3], row[2::3]))
            return [0, len(self.goods)]
        named = dict(zip(SHAPES[number], plain))
        due = [-2] if not self.goods and number != 19 else []
        due += [-3] if self.no_such(number, named, row) else []
        due += [-4] if self.too_many(number) else []
        due += [-7] if number == 1 and len(set(row[::2])) < len(row[::2]) else []
        due += [-10] if number == 16 and self.ticks + named["ticks_more"] > 10000 else []
        if due:
            return [max(due)]
        before = copy.deepcopy(self.bags)
        told = getattr(self, "call_" + str(number))(named, row)
        if not self.in_order():
            told = [-6]
        if told[0] < 0:
            self.bags = before
        return told

    def call_1(self, named, row):
        self.recipes.append((named["g"], named["cost"], named["ticks"], list(zip(row[::2], row[1::2]))))
        return [0, len(self.recipes) - 1]

    def call_2(self, named, row):
        self.bags.append({"in": named["to"], "room": named["room"], "own": named["own"], "places": named["places"],
                          "stacks": []})
        return [0, len(self.bags) - 1]

    def call_3(self, named, row):
        return [0] if self.put_many(named["b"], named["g"], named["n"]) else [-6]

    def call_4(self, named, row):
        if self.has(named["b"], named["g"]) < named["n"]:
            return [-8]
        for k in range(named["n"]):
            self.take_one(named["b"], named["g"])
        return [0, self.has(named["b"], named["g"])]

    def call_5(self, named, row):
        if self.has(named["a"], named["g"]) < named["n"]:
            return [-8]
        for k in range(named["n"]):
            self.take_one(named["a"], named["g"])
        return self.call_3(named, row)

    def call_6(self, named, row):
        self.bags[named["a"]]["in"] = named["to"]
        return [0]

    def call_7(self, named, row):
        return [0] + [k for stack in self.bags[named["b"]]["stacks"] for k in (stack[0], len(stack))]

    def call_8(self, named, row):
        b = named["b"]
        bag = self.bags[b]
        return [0, self.weighs(b), bag["room"] - self.holds(b), self.taken(b), bag["in"]]

    def call_9(self, named, row):
        before = copy.deepcopy(self.bags)
        many = -1
        while self.in_order():
            many += 1
            self.put_one(named["b"], named["g"])
        self.bags = before
        return [0, many]

    def call_10(self, named, row):
        return [0] + [self.cost(g) or 0 for g in range(len(self.goods))]

    def call_11(self, named, row):
        if len(row) != len(self.goods):
            return [0, 0]
        for g, price in enumerate(row):
            ways = [self.goods[g][2]] if self.goods[g][2] else []
            for makes, cost, ticks, needs in self.recipes:
                if makes == g:
                    ways.append(cost + sum(row[k] * many for k, many in needs))
            if any(price > way for way in ways):
                return [0, 0]
        return [0, 1]

    def planned(self, b, g, n):
        """The steps and what is used, by a list of what is still to be met or done."""
        told = [self.cost(k) for k in range(len(self.goods))]
        stock = [self.has(b, k) for k in range(len(self.goods))]
        steps, used = [], []
        ahead = [("meet", g, n)]
        while ahead:
            what, k, many = ahead.pop(0)
            if what == "do":
                steps.append((1, k, many))
                continue
            if stock[k] > 0:
                used.append((k, min(many, stock[k])))
                many, stock[k] = many - used[-1][1], stock[k] - used[-1][1]
            if many > 0 and self.goods[k][2] == told[k]:
                steps.append((0, k, many))
            elif many > 0:
                number = self.first_at(told, k)
                needs = [("meet", need, many * each) for need, each in self.recipes[number][3]]
                ahead = needs + [("do", number, many)] + ahead
        return steps, used, told

    def first_at(self, told, g):
        for number, (makes, cost, ticks, needs) in enumerate(self.recipes):
            parts = [told[k] for k, many in needs]
            if makes == g and None not in parts and cost + sum(told[k] * many for k, many in needs) == told[g]:
                return number
        return None

    def price_of(self, steps):
        return sum(many * (self.goods[k][2] if deed == 0 else self.recipes[k][1]) for deed, k, many in steps)

    def call_12(self, named, row):
        if self.cost(named["g"]) is None:
            return [-9]
        steps, used, told = self.planned(named["b"], named["g"], named["few"])
        answer = [0, self.price_of(steps), sum(told[k] * many for k, many in used), len(steps)]
        return answer + [number for part in steps + used for number in part]

    def call_13(self, named, row):
        if self.cost(named["g"]) is None:
            return [-9]
        b = named["b"]
        steps = self.planned(b, named["g"], named["few"])[0]
        for deed, k, many in steps:
            gained = k
            if deed == 1:
                gained = self.recipes[k][0]
                for need, each in self.recipes[k][3]:
                    for turn in range(many * each):
                        self.take_one(b, need)
            if not self.put_many(b, gained, many):
                return [-6]
        self.paid += self.price_of(steps)
        return [0, self.price_of(steps)]

    def call_14(self, named, row):
        self.machines.append({"from": named["a"], "into": named["b"], "recipe": named["recipe"], "ordered": 0,
                              "works": 0, "left": 0, "made": 0})
        return [0, len(self.machines) - 1]

    def call_15(self, named, row):
        self.machines[named["machine"]]["ordered"] += named["ordered"]
        return [0]

    def call_16(self, named, row):
        for turn in range(named["ticks_more"]):
            self.ticks += 1
            for one in self.machines:
                self.act(one)
        return [0, self.ticks]

    def act(self, one):
        makes, cost, ticks, needs = self.recipes[one["recipe"]]
        if one["works"] and one["left"] > 1:
            one["left"] -= 1
        elif one["works"]:
            one["left"] = 0
            before = copy.deepcopy(self.bags)
            if self.put_many(one["into"], makes, 1):
                one["made"] += 1
                one["works"] = 0
            else:
                self.bags = before
        elif one["ordered"] > 0 and all(self.has(one["from"], g) >= many for g, many in needs):
            for g, many in needs:
                for turn in range(many):
                    self.take_one(one["from"], g)
            one.update(ordered=one["ordered"] - 1, works=1, left=ticks)

    def call_17(self, named, row):
        return [0] + list(self.machines[named["machine"]].values())

    def call_18(self, named, row):
        return [0, sum(self.has(b, named["g"]) for b in range(len(self.bags)))]

    def call_19(self, named, row):
        return [0, len(self.goods), len(self.recipes), len(self.bags), len(self.machines), self.paid, self.ticks]

    def call_20(self, named, row):
        return [0] + [b for b in range(len(self.bags)) if self.has(b, named["g"])]


class AgainstModel(unittest.TestCase):
    def test_lines_by_chance(self):
        seen = set()
        for seed in range(250):
            line = Chance(seed).line(180)
            model = Model()
            expected = [model.answer(*call) for call in line]
            told = run([as_numbers(call) for call in line])
            for k, call in enumerate(line):
                self.assertEqual(told[k], expected[k], (seed, k, flat([as_numbers(c) for c in line[:k + 1]])))
                seen.add((call[0], min(told[k][0], 0)))
        wanted = {(1, -7), (2, -6), (3, -6), (4, -8), (5, -6), (5, -8), (6, -6), (12, -9), (13, -6), (13, -9), (14, -4)}
        self.assertLessEqual(wanted | {(number, 0) for number in range(21)}, seen)
