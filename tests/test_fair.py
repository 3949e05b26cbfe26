import random

from helper import FAR, Case, costs, drawn_world, fair, plan, priced, put, recipe, run

BOUGHT = [priced(5, 9, 0)]
# Good 1 of two of good 0, good 2 of one of good 1 and three of good 0.
MADE = [priced(5, 0, 0), recipe(1, 3, 1, 0, 2), recipe(2, 4, 1, 1, 1, 0, 3)]


class Fair(Case):
    def is_fair(self, before, *prices):
        self.unchanged(before, fair(*prices), [0, 1])

    def is_unfair(self, before, *prices):
        self.unchanged(before, fair(*prices), [0, 0])

    def test_at_and_above_a_price(self):
        self.is_fair(BOUGHT, 5, 9, 0)
        self.is_fair(BOUGHT, 4, 8, 0)
        self.is_unfair(BOUGHT, 6, 9, 0)
        self.is_unfair(BOUGHT, 5, 10, 0)
        self.is_fair([priced(1000)], 1000)
        self.is_unfair([priced(1000)], 1001)

    def test_a_good_that_can_not_be_bought(self):
        self.is_fair(BOUGHT, 5, 9, 1)
        self.is_fair(BOUGHT, 5, 9, FAR)
        self.is_unfair(BOUGHT, 5, 10, FAR)
        self.is_fair([priced(0, 0)], FAR, FAR)

    def test_at_and_above_a_recipes_cost_by_these_prices(self):
        self.is_fair(MADE, 5, 13, 32)
        self.is_unfair(MADE, 5, 14, 32)
        self.is_unfair(MADE, 5, 13, 33)
        self.is_fair(MADE, 2, 7, 17)
        self.is_unfair(MADE, 2, 8, 17)
        self.is_unfair(MADE, 2, 7, 18)
        self.is_fair(MADE, 2, 6, 16)
        self.is_unfair(MADE, 2, 6, 17)

    def test_all_may_be_0(self):
        self.is_fair(MADE, 0, 0, 0)
        self.is_fair(MADE, 0, 3, 7)
        self.is_unfair(MADE, 0, 4, 7)
        self.is_unfair(MADE, 0, 3, 8)

    def test_what_a_needed_good_is_priced_at_counts_though_it_has_no_cost(self):
        before = [priced(0, 0), recipe(1, 3, 1, 0, 2)]
        self.is_fair(before, 10, 23)
        self.is_unfair(before, 10, 24)
        self.is_fair(before, 0, 3)
        self.is_unfair(before, 0, 4)

    def test_price_and_each_recipe_are_asked(self):
        before = [priced(4, 9), recipe(1, 3, 1, 0, 1), recipe(1, 1, 1, 0, 2), recipe(1, 8, 1)]
        self.is_fair(before, 4, 7)
        self.is_unfair(before, 4, 8)
        self.is_fair(before, 1, 3)
        self.is_unfair(before, 1, 4)
        self.is_unfair([priced(4, 6)] + before[1:], 4, 7)
        self.is_unfair(before + [recipe(1, 6, 1)], 4, 7)
        self.is_fair(before + [recipe(1, 6, 1)], 4, 6)

    def test_without_needs(self):
        self.is_fair([priced(0), recipe(0, 1000, 1)], 1000)
        self.is_unfair([priced(0), recipe(0, 1000, 1)], 1001)

    def test_a_good_that_needs_itself(self):
        self.is_fair([priced(0), recipe(0, 1, 1, 0, 1)], FAR)
        self.is_fair([priced(7), recipe(0, 1, 1, 0, 1)], 7)
        self.is_unfair([priced(7), recipe(0, 1, 1, 0, 1)], 8)

    def test_a_ring(self):
        ring = [priced(0, 0), recipe(0, 1, 1, 1, 1), recipe(1, 2, 1, 0, 1)]
        self.is_fair(ring, FAR, FAR)
        self.is_fair(ring, FAR - 2, FAR)
        self.is_fair(ring, FAR, FAR - 1)
        self.is_unfair(ring, FAR - 3, FAR)
        self.is_unfair(ring, FAR, FAR - 2)

    def test_great_prices_are_exact(self):
        before = [priced(0, 0), recipe(1, 1, 1, 0, 1)]
        self.is_fair(before, FAR - 1, FAR)
        self.is_unfair(before, FAR - 2, FAR)
        self.is_fair([priced(0, 0), recipe(1, 1, 1, 0, 9)], 111111111111111111, FAR)
        self.is_unfair([priced(0, 0), recipe(1, 1, 1, 0, 9)], 111111111111111110, FAR)

    def test_one_for_each_good(self):
        for length in range(11):
            self.unchanged(BOUGHT, fair(*[0] * length), [0, 1 if length == 3 else 0])
            self.unchanged([priced(*[3] * 10)], fair(*[3] * length), [0, 1 if length == 10 else 0])
            self.unchanged([priced(3)], fair(*[3] * length), [0, 1 if length == 1 else 0])

    def test_one_for_each_good_with_recipes(self):
        self.is_unfair(MADE)
        self.is_unfair(MADE, 0)
        self.is_unfair(MADE, 5, 13)
        self.is_unfair(MADE, 5, 13, 32, 0)

    def test_too_long(self):
        for length in range(11, 41):
            self.refused([priced(*[3] * 10)], fair(*[3] * length), -1)
        self.refused(BOUGHT, fair(*[0] * 11), -1)

    def test_just_outside(self):
        for wrong in (-1, -FAR):
            for at in range(3):
                row = [0, 0, 0]
                row[at] = wrong
                self.refused(BOUGHT, fair(*row), -1)
            self.refused(BOUGHT, fair(wrong), -1)
            self.refused([priced(*[3] * 10)], fair(*[3] * 9, wrong), -1)

    def test_the_greatest(self):
        self.is_unfair(BOUGHT, FAR, 0, 0)
        self.is_unfair(BOUGHT, FAR, FAR, FAR)
        self.unchanged([priced(*[0] * 10)], fair(*[FAR] * 10), [0, 1])
        self.is_unfair(BOUGHT, FAR)

    def test_without_goods(self):
        for length in range(11):
            self.refused([], fair(*[0] * length), -2)
        self.refused([], fair(*[0] * 11), -1)
        self.refused([], fair(-1), -1)


class FairPricesProve(Case):
    """By fair prices no plan costs less than what comes out is worth (promise 2)."""

    def test_what_goods_cost_is_fair_and_no_fair_price_is_above_it(self):
        seen = {0: 0, 1: 0}
        for seed in range(300):
            draw = random.Random(seed)
            line = drawn_world(draw)
            told = run(line + [costs()])[-1][1:]
            dear = [cost if cost > 0 else FAR for cost in told]
            self.answered(line + [fair(*dear)], [0, 1])
            for g, cost in enumerate(told):
                if cost > 0:
                    self.answered(line + [fair(*dear[:g], dear[g] + 1, *dear[g + 1:])], [0, 0])
            for turn in range(10):
                tried = [draw.randint(0, cost + 2 if cost > 0 else 50) for cost in told]
                answer = run(line + [fair(*tried)])[-1]
                seen[answer[1]] += 1
                if answer == [0, 1]:
                    self.none_is_cheaper(line, told, tried, draw)
        self.assertGreater(min(seen.values()), 300)

    def none_is_cheaper(self, line, told, prices, draw):
        stocked = [put(0, g, draw.randint(1, 20)) for g in range(len(told)) if draw.randrange(2)]
        for g, cost in enumerate(told):
            if cost > 0:
                self.assertLessEqual(prices[g], cost)
                n = draw.randint(1, 20)
                answer = run(line + stocked + [plan(0, g, n)])[-1]
                used = answer[4 + 3 * answer[3]:]
                worth = sum(prices[k] * many for k, many in zip(used[::2], used[1::2]))
                self.assertGreaterEqual(answer[1] + worth, n * prices[g])
