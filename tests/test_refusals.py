"""Where several refusals are due, the one nearest to 0."""

from helper import (GROUND, Case, bag, carry, costs, count, fair, find, fits, goods, load, machine, make, move, order,
                    plan, put, recipe, stacks, state, take, tick, totals)

ONE = goods(2, 5, 0)
FULL = [ONE, bag(GROUND, 10, 0, 1), put(0, 0, 5), bag(GROUND, 99, 20, 9)]
RECIPES = [ONE] + [recipe(0, 9, 1)] * 16
BAGS = [ONE, bag(GROUND, 10, 0, 0)] + [bag(GROUND, 0, 0, 0)] * 11
MACHINES = [ONE, recipe(0, 9, 1), bag(GROUND, 10, 0, 0)] + [machine(0, 0, 0)] * 6
COSTLESS = [goods(2, 5, 0, 1, 1, 4), bag(GROUND, 10, 0, 1), put(0, 0, 5)]


class NearestToZero(Case):
    def test_goods(self):
        self.refused([ONE], goods(0, 1, 1), -1)
        self.refused([ONE], goods(), -1)
        self.refused([ONE], goods(1, 1, 1, 1), -1)

    def test_out_of_range_before_no_goods(self):
        for call in (recipe(10, 1, 1), recipe(0, 1, 1, 0), recipe(0, 1, 1, 0, 0), bag(12, 0, 0, 0), put(0, 0, 0),
                     take(0, 10, 1), move(0, 12, 0, 1), carry(0, -2), stacks(12), load(-1), fits(0, 10), fair(-1),
                     fair(*[0] * 11), plan(0, 0, 101), make(0, 0, 0), machine(0, 0, 16), order(6, 1), order(0, 0),
                     tick(0), tick(101), state(6), count(10), find(-1)):
            self.refused([], call, -1)

    def test_no_goods_before_no_such(self):
        for call in (recipe(0, 1, 1), recipe(0, 1, 1, 0, 1), recipe(0, 1, 1, 0, 1, 0, 1), bag(GROUND, 0, 0, 0),
                     bag(0, 0, 0, 0), put(0, 0, 1), take(0, 0, 1), move(0, 0, 0, 1), carry(0, 0), carry(0, GROUND),
                     stacks(0), load(0), fits(0, 0), costs(), fair(), fair(1), fair(*[0] * 10), plan(0, 0, 1),
                     make(0, 0, 1), machine(0, 0, 0), order(0, 1), tick(1), tick(100), state(0), count(0), find(0)):
            self.refused([], call, -2)

    def test_no_goods_is_not_due_in_goods_and_totals(self):
        self.answered([ONE], [0, 1])
        self.answered([totals()], [0, 0, 0, 0, 0, 0, 0])

    def test_out_of_range_before_no_such(self):
        for call in (recipe(9, 0, 1), recipe(0, 1, 1, 9, 1, 0, 10), bag(11, 0, 0, 41), put(11, 0, 0), put(11, 10, 1),
                     take(11, 0, 0), move(11, 12, 0, 1), carry(11, 12), carry(12, 11), fits(11, 10), fits(12, 9),
                     plan(11, 0, 0), plan(11, 10, 1), plan(12, 9, 1), make(11, 0, 101), make(0, 9, 0), make(12, 9, 1),
                     machine(11, 0, 16), machine(12, 0, 15), machine(0, 12, 15), order(5, 0), order(5, 1001)):
            self.refused(FULL, call, -1)

    def test_recipe(self):
        self.refused(RECIPES, recipe(0, 0, 1), -1)
        self.refused(RECIPES, recipe(0, 1, 1, 0), -1)
        self.refused(RECIPES, recipe(1, 1, 1), -3)
        self.refused(RECIPES, recipe(0, 1, 1, 1, 1), -3)
        self.refused(RECIPES, recipe(0, 1, 1, 1, 1, 1, 1), -3)
        self.refused(RECIPES, recipe(0, 1, 1, 0, 1, 0, 1), -4)
        self.refused([ONE], recipe(0, 1, 1, 0, 1, 0, 10), -1)
        self.refused([ONE], recipe(0, 1, 1, 0, 1, 0), -1)
        self.refused([ONE], recipe(1, 1, 1, 0, 1, 0, 1), -3)
        self.refused([ONE], recipe(0, 1, 1, 1, 1, 1, 1), -3)

    def test_bag(self):
        self.refused(BAGS, bag(0, 0, 1001, 0), -1)
        self.refused(BAGS, bag(12, 0, 0, 0), -1)
        self.refused(BAGS, bag(0, 0, 11, 0), -4)
        self.refused(FULL, bag(0, 0, 1, 41), -1)

    def test_no_such_before_no_room(self):
        self.refused(FULL, put(0, 1, 9999), -3)
        self.refused(FULL, move(1, 2, 0, 1), -3)
        self.refused(FULL, carry(2, 0), -3)
        self.refused(FULL, carry(2, 2), -3)

    def test_out_of_range_before_no_room(self):
        self.refused(FULL, put(0, 0, 10001), -1)
        self.refused(FULL, carry(12, 12), -1)

    def test_before_too_few(self):
        self.refused(FULL, take(0, 0, 10001), -1)
        self.refused(FULL, take(0, 1, 9999), -3)
        self.refused(FULL, take(2, 0, 9999), -3)
        self.refused(FULL, move(0, 1, 0, 10001), -1)
        self.refused(FULL, move(0, 2, 0, 9999), -3)
        self.refused(FULL, move(0, 1, 1, 9999), -3)

    def test_no_room_in_move_is_due_only_if_there_are_so_many(self):
        self.refused(FULL, move(1, 0, 0, 1), -8)
        self.refused(FULL + [put(1, 0, 1)], move(1, 0, 0, 2), -8)
        self.refused(FULL + [put(1, 0, 1)], move(1, 0, 0, 1), -6)

    def test_a_carry_that_is_a_ring_has_no_other_refusal(self):
        self.refused(FULL, carry(0, 0), -6)

    def test_machine(self):
        self.refused(MACHINES, machine(0, 0, 16), -1)
        self.refused(MACHINES, machine(12, 0, 0), -1)
        self.refused(MACHINES, machine(1, 0, 0), -3)
        self.refused(MACHINES, machine(0, 1, 0), -3)
        self.refused(MACHINES, machine(0, 0, 1), -3)
        self.refused(MACHINES, machine(0, 0, 0), -4)

    def test_plan(self):
        self.refused(COSTLESS, plan(0, 0, 101), -1)
        self.refused(COSTLESS, plan(12, 0, 1), -1)
        self.refused(COSTLESS, plan(1, 0, 1), -3)
        self.refused(COSTLESS, plan(0, 2, 1), -3)
        self.refused(COSTLESS, plan(0, 0, 1), -9)

    def test_make(self):
        self.refused(COSTLESS, make(0, 0, 101), -1)
        self.refused(COSTLESS, make(12, 0, 1), -1)
        self.refused(COSTLESS, make(0, 1, 101), -1)
        self.refused(COSTLESS, make(1, 0, 1), -3)
        self.refused(COSTLESS, make(1, 1, 1), -3)
        self.refused(COSTLESS, make(0, 2, 1), -3)
        self.refused(COSTLESS, make(0, 1, 1), -6)

    def test_no_room_in_make_is_due_only_if_there_is_a_plan(self):
        self.refused(COSTLESS, make(0, 0, 1), -9)
        self.refused(COSTLESS, make(0, 0, 5), -9)
        self.refused(COSTLESS, make(0, 0, 6), -9)
        self.refused(COSTLESS + [recipe(0, 3, 1)], make(0, 0, 6), -6)
        # Made of two, one of which has no cost, and the other no room.
        half = [goods(2, 5, 0, 1, 1, 4, 1, 1, 0), recipe(2, 1, 1, 1, 1, 0, 1), bag(GROUND, 0, 0, 0)]
        self.refused(half, make(0, 2, 1), -9)
        self.refused(half, make(0, 1, 1), -6)

    def test_out_of_range_before_too_many_ticks(self):
        gone = [ONE] + [tick(100)] * 100
        for many in (-1, 0, 101):
            self.answered_all(gone + [tick(many), totals()], [[-1], [0, 1, 0, 0, 0, 0, 10000]])
        self.answered_all(gone + [tick(1), totals()], [[-10], [0, 1, 0, 0, 0, 0, 10000]])
