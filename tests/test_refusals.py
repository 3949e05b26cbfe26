"""Where several refusals are due, the one nearest to 0."""

from helper import GROUND, Case, bag, carry, costs, fits, goods, load, move, put, recipe, stacks, take

ONE = goods(2, 5, 0)
FULL = [ONE, bag(GROUND, 10, 0, 1), put(0, 0, 5), bag(GROUND, 99, 20, 9)]
RECIPES = [ONE] + [recipe(0, 9, 1)] * 16
BAGS = [ONE, bag(GROUND, 10, 0, 0)] + [bag(GROUND, 0, 0, 0)] * 11


class NearestToZero(Case):
    def test_goods(self):
        self.refused([ONE], goods(0, 1, 1), -1)
        self.refused([ONE], goods(), -1)
        self.refused([ONE], goods(1, 1, 1, 1), -1)

    def test_out_of_range_before_no_goods(self):
        for call in (recipe(10, 1, 1), recipe(0, 1, 1, 0), recipe(0, 1, 1, 0, 0), bag(12, 0, 0, 0), put(0, 0, 0),
                     take(0, 10, 1), move(0, 12, 0, 1), carry(0, -2), stacks(12), load(-1), fits(0, 10)):
            self.refused([], call, -1)

    def test_no_goods_before_no_such(self):
        for call in (recipe(0, 1, 1), recipe(0, 1, 1, 0, 1), recipe(0, 1, 1, 0, 1, 0, 1), bag(GROUND, 0, 0, 0),
                     bag(0, 0, 0, 0), put(0, 0, 1), take(0, 0, 1), move(0, 0, 0, 1), carry(0, 0), carry(0, GROUND),
                     stacks(0), load(0), fits(0, 0), costs()):
            self.refused([], call, -2)

    def test_out_of_range_before_no_such(self):
        for call in (recipe(9, 0, 1), recipe(0, 1, 1, 9, 1, 0, 10), bag(11, 0, 0, 41), put(11, 0, 0), put(11, 10, 1),
                     take(11, 0, 0), move(11, 12, 0, 1), carry(11, 12), carry(12, 11), fits(11, 10), fits(12, 9)):
            self.refused(FULL, call, -1)

    def test_recipe(self):
        self.refused(RECIPES, recipe(0, 0, 1), -1)
        self.refused(RECIPES, recipe(0, 1, 1, 0), -1)
        self.refused(RECIPES, recipe(1, 1, 1), -3)
        self.refused(RECIPES, recipe(0, 1, 1, 1, 1), -3)
        self.refused(RECIPES, recipe(0, 1, 1, 1, 1, 1, 1), -3)
        self.refused(RECIPES, recipe(0, 1, 1, 0, 1, 0, 1), -4)
        self.refused([ONE], recipe(0, 1, 1, 0, 1, 0, 10), -1)
        self.refused([ONE], recipe(0, 1, 1, 0, 1, 0), -1)
        self.refused([ONE], recipe(1, 1, 1, 0, 1, 0, 1), -3)
        self.refused([ONE], recipe(0, 1, 1, 1, 1, 1, 1), -3)

    def test_bag(self):
        self.refused(BAGS, bag(0, 0, 1001, 0), -1)
        self.refused(BAGS, bag(12, 0, 0, 0), -1)
        self.refused(BAGS, bag(0, 0, 11, 0), -4)
        self.refused(FULL, bag(0, 0, 1, 41), -1)

    def test_no_such_before_no_room(self):
        self.refused(FULL, put(0, 1, 9999), -3)
        self.refused(FULL, move(1, 2, 0, 1), -3)
        self.refused(FULL, carry(2, 0), -3)
        self.refused(FULL, carry(2, 2), -3)

    def test_out_of_range_before_no_room(self):
        self.refused(FULL, put(0, 0, 10001), -1)
        self.refused(FULL, carry(12, 12), -1)

    def test_before_too_few(self):
        self.refused(FULL, take(0, 0, 10001), -1)
        self.refused(FULL, take(0, 1, 9999), -3)
        self.refused(FULL, take(2, 0, 9999), -3)
        self.refused(FULL, move(0, 1, 0, 10001), -1)
        self.refused(FULL, move(0, 2, 0, 9999), -3)
        self.refused(FULL, move(0, 1, 1, 9999), -3)

    def test_no_room_in_move_is_due_only_if_there_are_so_many(self):
        self.refused(FULL, move(1, 0, 0, 1), -8)
        self.refused(FULL + [put(1, 0, 1)], move(1, 0, 0, 2), -8)
        self.refused(FULL + [put(1, 0, 1)], move(1, 0, 0, 1), -6)

    def test_a_carry_that_is_a_ring_has_no_other_refusal(self):
        self.refused(FULL, carry(0, 0), -6)
