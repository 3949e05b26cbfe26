import random

from helper import GROUND, OUTSIDE_PLANS, Case, bag, costs, drawn_world, goods, plan, priced, put, recipe, run

WOOD, STONE, AXE, CART = range(4)
# Costs: wood 2, stone 3, an axe 4 + 2 * 3 + 2 = 12, a cart 5 + 12 + 3 * 2 = 23.
YARD = [goods(1, 10, 2, 1, 2, 3, 1, 10, 0, 1, 10, 0), recipe(AXE, 4, 1, STONE, 2, WOOD, 1),
        recipe(CART, 5, 1, AXE, 1, WOOD, 3), bag(GROUND, 1000, 0, 40)]
TEN = [priced(*[1] * 10), bag(GROUND, 99, 0, 9)]


class Plan(Case):
    def planned(self, before, asked, cost, worth, steps, used):
        """The plan is this, and asking for it changes nothing."""
        answer = [0, cost, worth, len(steps)] + [number for part in steps + used for number in part]
        self.unchanged(before, plan(*asked), answer)

    def test_bought(self):
        self.planned(YARD, (0, STONE, 7), 21, 0, [(0, STONE, 7)], [])

    def test_made_in_several_steps(self):
        self.planned(YARD, (0, AXE, 1), 12, 0, [(0, STONE, 2), (0, WOOD, 1), (1, 0, 1)], [])
        steps = [(0, STONE, 4), (0, WOOD, 2), (1, 0, 2), (0, WOOD, 6), (1, 1, 2)]
        self.planned(YARD, (0, CART, 2), 46, 0, steps, [])

    def test_stock_used_wholly(self):
        self.planned(YARD + [put(0, CART, 2)], (0, CART, 2), 0, 46, [], [(CART, 2)])
        self.planned(YARD + [put(0, STONE, 7)], (0, STONE, 7), 0, 21, [], [(STONE, 7)])

    def test_stock_used_in_part(self):
        self.planned(YARD + [put(0, CART, 5)], (0, CART, 2), 0, 46, [], [(CART, 2)])
        self.planned(YARD + [put(0, STONE, 5)], (0, STONE, 7), 6, 15, [(0, STONE, 2)], [(STONE, 5)])
        self.planned(YARD + [put(0, AXE, 1)], (0, AXE, 2), 12, 12, [(0, STONE, 2), (0, WOOD, 1), (1, 0, 1)],
                     [(AXE, 1)])

    def test_one_good_used_several_times(self):
        self.planned(YARD + [put(0, WOOD, 3), put(0, AXE, 1)], (0, CART, 2), 28, 18,
                     [(0, STONE, 2), (1, 0, 1), (0, WOOD, 4), (1, 1, 2)], [(AXE, 1), (WOOD, 1), (WOOD, 2)])
        self.planned(YARD + [put(0, WOOD, 8)], (0, CART, 2), 30, 16, [(0, STONE, 4), (1, 0, 2), (1, 1, 2)],
                     [(WOOD, 2), (WOOD, 6)])
        self.planned(YARD + [put(0, WOOD, 9)], (0, CART, 2), 30, 16, [(0, STONE, 4), (1, 0, 2), (1, 1, 2)],
                     [(WOOD, 2), (WOOD, 6)])

    def test_stock_that_is_gone_is_not_used_again(self):
        self.planned(YARD + [put(0, WOOD, 2)], (0, CART, 2), 42, 4,
                     [(0, STONE, 4), (1, 0, 2), (0, WOOD, 6), (1, 1, 2)], [(WOOD, 2)])

    def test_all_stacks_are_counted(self):
        line = YARD + [put(0, STONE, 3), put(0, WOOD, 1), put(0, STONE, 2)]
        self.planned(line, (0, STONE, 7), 6, 15, [(0, STONE, 2)], [(STONE, 5)])

    def test_the_stacks_of_that_bag_alone(self):
        line = YARD + [bag(0, 99, 0, 9), bag(GROUND, 99, 0, 9), put(1, STONE, 3), put(2, STONE, 3)]
        self.planned(line, (0, STONE, 7), 21, 0, [(0, STONE, 7)], [])
        self.planned(line, (1, STONE, 7), 12, 9, [(0, STONE, 4)], [(STONE, 3)])

    def test_room_is_not_asked(self):
        line = YARD + [bag(GROUND, 0, 0, 0)]
        self.planned(line, (1, STONE, 100), 300, 0, [(0, STONE, 100)], [])

    def test_a_price_that_is_the_cost_goes_ahead_of_a_recipe(self):
        made = [recipe(1, 4, 1, 0, 2), bag(GROUND, 99, 0, 9)]
        self.planned([priced(2, 8)] + made, (0, 1, 3), 24, 0, [(0, 1, 3)], [])
        self.planned([priced(2, 7)] + made, (0, 1, 3), 21, 0, [(0, 1, 3)], [])
        self.planned([priced(2, 9)] + made, (0, 1, 3), 24, 0, [(0, 0, 6), (1, 0, 3)], [])
        self.planned([priced(2, 0)] + made, (0, 1, 3), 24, 0, [(0, 0, 6), (1, 0, 3)], [])

    def test_a_price_that_is_not_the_cost_is_not_paid_for_a_need_either(self):
        line = [priced(2, 9, 0), recipe(1, 4, 1, 0, 2), recipe(2, 1, 1, 1, 1), bag(GROUND, 99, 0, 9)]
        self.planned(line, (0, 2, 1), 9, 0, [(0, 0, 2), (1, 0, 1), (1, 1, 1)], [])

    def test_the_first_recipe_at_just_the_cost(self):
        line = [priced(2, 0, 0), recipe(1, 9, 1), recipe(2, 3, 1), recipe(1, 3, 1, 0, 2), recipe(1, 7, 1),
                recipe(1, 5, 1, 0, 1), recipe(1, 8, 1), bag(GROUND, 99, 0, 9)]
        self.planned(line, (0, 1, 2), 14, 0, [(0, 0, 4), (1, 2, 2)], [])
        self.planned([line[0], line[4]] + line[3:4] + line[7:], (0, 1, 2), 14, 0, [(1, 0, 2)], [])

    def test_a_recipe_without_needs(self):
        self.planned([priced(0), recipe(0, 6, 1), bag(GROUND, 99, 0, 9)], (0, 0, 5), 30, 0, [(1, 0, 5)], [])

    def test_needs_are_met_in_the_recipes_order(self):
        for needs in ((0, 1, 1, 2, 2, 3), (2, 3, 0, 1, 1, 2), (1, 2, 2, 3, 0, 1)):
            line = [priced(1, 2, 3, 0), recipe(3, 1, 1, *needs), bag(GROUND, 99, 0, 9)]
            steps = [(0, good, 2 * many) for good, many in zip(needs[::2], needs[1::2])]
            self.planned(line, (0, 3, 2), 30, 0, steps + [(1, 0, 2)], [])

    def test_what_has_no_cost_is_not_used(self):
        line = [priced(0, 50), recipe(1, 1, 1, 0, 1), bag(GROUND, 99, 0, 9), put(0, 0, 5)]
        self.planned(line, (0, 1, 2), 100, 0, [(0, 1, 2)], [])

    def test_what_costs_less_than_what_lies_there_is_not_sought(self):
        line = [priced(1, 5, 0), recipe(2, 9, 1, 1, 1), recipe(2, 1, 1, 0, 1), bag(GROUND, 99, 0, 9), put(0, 1, 5)]
        self.planned(line, (0, 2, 1), 2, 0, [(0, 0, 1), (1, 1, 1)], [])

    def test_rings(self):
        line = [priced(0, 5), recipe(0, 1, 1, 1, 1), recipe(1, 1, 1, 0, 1), recipe(1, 1, 1, 1, 1),
                bag(GROUND, 99, 0, 9)]
        self.planned(line, (0, 0, 2), 12, 0, [(0, 1, 2), (1, 0, 2)], [])
        self.planned(line, (0, 1, 2), 10, 0, [(0, 1, 2)], [])

    def test_both_ends_of_how_many(self):
        self.planned(YARD, (0, STONE, 1), 3, 0, [(0, STONE, 1)], [])
        self.planned(YARD, (0, STONE, 100), 300, 0, [(0, STONE, 100)], [])

    def test_the_last_bag_and_the_last_good(self):
        line = [priced(*[1] * 10)] + [bag(GROUND, 99, 0, 9)] * 12 + [put(11, 9, 1)]
        self.planned(line, (11, 9, 2), 1, 1, [(0, 9, 1)], [(9, 1)])
        self.planned(line, (0, 0, 2), 2, 0, [(0, 0, 2)], [])

    def test_just_outside(self):
        for asked in OUTSIDE_PLANS:
            self.refused(TEN, plan(*asked), -1)

    def test_no_such_bag_or_good(self):
        for asked in ((1, 0, 1), (11, 0, 1), (0, 4, 1), (0, 9, 1)):
            self.refused(YARD, plan(*asked), -3)

    def test_no_cost(self):
        line = [priced(0, 5, 0), recipe(0, 1, 1, 1, 1, 2, 1), bag(GROUND, 99, 0, 9)]
        self.refused(line, plan(0, 0, 1), -9)
        self.refused(line, plan(0, 2, 1), -9)
        self.refused(line + [put(0, 0, 5)], plan(0, 0, 1), -9)
        self.refused([priced(0), recipe(0, 1, 1, 0, 1), bag(GROUND, 99, 0, 9), put(0, 0, 5)], plan(0, 0, 1), -9)

    def test_great_numbers_are_exact(self):
        line = [priced(1000, *[0] * 9)] + [recipe(k, 1000, 1, k - 1, 9) for k in range(1, 10)]
        steps = [(0, 0, 100 * 9 ** 9)] + [(1, k, 100 * 9 ** (8 - k)) for k in range(9)]
        cost = 1000 * sum(100 * 9 ** k for k in range(10))
        self.planned(line + [bag(GROUND, 99, 0, 9)], (0, 9, 100), cost, 0, steps, [])

    def test_the_most_steps(self):
        line = [priced(1, *[0] * 9)]
        for k in range(1, 10):
            line.append(recipe(k, 1, 1, *[number for g in range(max(0, k - 4), k) for number in (g, 1)]))
        answer = run(line + [bag(GROUND, 99, 0, 9), plan(0, 9, 1)])[-1]
        self.assertEqual(answer[:4], [0, 432, 0, 432])
        self.assertEqual(len(answer), 4 + 3 * 432)
        self.assertEqual(answer[-3:], [1, 8, 1])


class Worth(Case):
    """A plan's cost and what it uses are worth n times the good (promise 3), and it comes out (promise 4)."""

    def test_by_chance(self):
        seen = 0
        for seed in range(400):
            draw = random.Random(seed)
            line = drawn_world(draw)
            told = run(line + [costs()])[-1][1:]
            stock = [draw.choice([0, draw.randint(1, 40)]) for g in told]
            line += [put(0, g, many) for g, many in enumerate(stock) if many > 0]
            for g, cost in enumerate(told):
                n = draw.randint(1, 100)
                answer = run(line + [plan(0, g, n)])[-1]
                if cost == 0:
                    self.assertEqual(answer, [-9])
                else:
                    self.assertEqual(answer[1] + answer[2], n * cost, (seed, g, n))
                    self.comes_out(line, told, stock, (g, n), answer)
                    seen += 1
        self.assertGreater(seen, 500)

    def comes_out(self, line, told, stock, asked, answer):
        """Steps and used, done with bare counts, come to what was asked."""
        there = list(stock)
        recipes = [call for call in line if call[0] == 1]
        prices = line[0][4::3]
        cut = 4 + 3 * answer[3]
        steps, used = answer[4:cut], answer[cut:]
        using = [0] * len(told)
        for good, many in zip(used[::2], used[1::2]):
            using[good] += many
            self.assertGreater(many, 0)
        paid = 0
        for deed, which, many in zip(steps[::3], steps[1::3], steps[2::3]):
            self.assertGreater(many, 0)
            gained = which
            if deed == 0:
                self.assertEqual(prices[which], told[which])
                paid += many * prices[which]
            else:
                gained = recipes[which][1]
                paid += many * recipes[which][2]
                needs = recipes[which][5:]
                for good, each in zip(needs[::2], needs[1::2]):
                    there[good] -= each * many
                    self.assertGreaterEqual(there[good], 0)
            there[gained] += many
        good, n = asked
        self.assertEqual(paid, answer[1])
        self.assertEqual(sum(told[k] * many for k, many in enumerate(using)), answer[2])
        self.assertGreaterEqual(there[good], n)
        # Whatever was used is gone, but for what was asked for itself; and nothing is left over between.
        kept = [had - gone for had, gone in zip(stock, using)]
        kept[good] += n
        self.assertEqual(there, kept)
