from helper import (FAR, GROUND, Case, bag, goods, machine, order, priced, put, recipe, stacks, state, take, tick,
                    totals)

ORE, BAR = range(2)
# A bar is made of two of ore in three ticks.
FORGE = [goods(1, 10, 1, 3, 10, 0), recipe(BAR, 5, 3, ORE, 2), recipe(ORE, 5, 1), bag(GROUND, 99, 0, 9),
         bag(GROUND, 99, 0, 9)]
ALL = [goods(1, 10, 1)] + [recipe(0, 1, 1)] * 16 + [bag(GROUND, 99, 0, 9)] * 12


class Machine(Case):
    def test_a_new_one_is_idle(self):
        line = FORGE + [machine(0, 1, 0), machine(1, 0, 1), state(0), state(1), totals()]
        self.answered_all(line, [[0, 0], [0, 1], [0, 0, 1, 0, 0, 0, 0, 0], [0, 1, 0, 1, 0, 0, 0, 0],
                                 [0, 2, 2, 2, 2, 0, 0]])

    def test_one_bag_for_both(self):
        self.answered_all(FORGE + [machine(1, 1, 0), state(0)], [[0, 0], [0, 1, 1, 0, 0, 0, 0, 0]])

    def test_no_more_than_6(self):
        line = FORGE + [machine(0, 1, 0)] * 6
        self.answered_all(line, [[0, k] for k in range(6)])
        self.refused(line, machine(0, 1, 0), -4)
        self.refused(line, machine(1, 1, 1), -4)

    def test_refused_ones_take_no_number(self):
        self.answered_all(FORGE + [machine(0, 2, 0), machine(0, 1, 16), machine(0, 1, 0)], [[-3], [-1], [0, 0]])

    def test_both_ends_of_each_range(self):
        for told in ((0, 0, 0), (11, 0, 0), (0, 11, 0), (0, 0, 15), (11, 11, 15)):
            self.answered_all(ALL + [machine(*told), state(0)], [[0, 0], [0, *told, 0, 0, 0, 0]])

    def test_just_outside(self):
        for told in ((-1, 0, 0), (12, 0, 0), (0, -1, 0), (0, 12, 0), (0, 0, -1), (0, 0, 16), (FAR, 0, 0), (-FAR, 0, 0),
                     (0, FAR, 0), (0, -FAR, 0), (0, 0, FAR), (0, 0, -FAR)):
            self.refused(ALL, machine(*told), -1)

    def test_no_such_bag_or_recipe(self):
        for told in ((2, 0, 0), (11, 0, 0), (0, 2, 0), (0, 11, 0), (0, 0, 2), (0, 0, 15)):
            self.refused(FORGE, machine(*told), -3)
        self.refused([priced(1), bag(GROUND, 99, 0, 9)], machine(0, 0, 0), -3)
        self.refused([priced(1), recipe(0, 1, 1)], machine(0, 0, 0), -3)


class Order(Case):
    def test_orders_add_up(self):
        line = FORGE + [machine(0, 1, 0)] * 2 + [order(0, 3), order(1, 1), order(0, 1000), state(0), state(1)]
        self.answered_all(line, [[0], [0], [0], [0, 0, 1, 0, 1003, 0, 0, 0], [0, 0, 1, 0, 1, 0, 0, 0]])

    def test_an_order_alone_takes_nothing(self):
        line = FORGE + [put(0, ORE, 5), machine(0, 1, 0), order(0, 2), stacks(0), totals()]
        self.answered_all(line, [[0], [0, ORE, 5], [0, 2, 2, 2, 1, 0, 0]])

    def test_orders_while_it_works_and_while_it_waits(self):
        line = FORGE + [put(0, ORE, 5), machine(0, 1, 0), order(0, 1), tick(2), order(0, 3), state(0)]
        self.answered(line, [0, 0, 1, 0, 3, 1, 2, 0])
        self.answered_all(line + [tick(2), state(0), tick(1), state(0)],
                          [[0, 4], [0, 0, 1, 0, 3, 0, 0, 1], [0, 5], [0, 0, 1, 0, 2, 1, 3, 1]])
        shut = [goods(1, 10, 1), recipe(0, 1, 1), bag(GROUND, 0, 0, 0), machine(0, 0, 0), order(0, 1), tick(9)]
        self.answered_all(shut + [state(0), order(0, 2), state(0), tick(9), state(0)],
                          [[0, 0, 0, 0, 0, 1, 0, 0], [0], [0, 0, 0, 0, 2, 1, 0, 0], [0, 18], [0, 0, 0, 0, 2, 1, 0, 0]])

    def test_both_ends_of_each_range(self):
        for number in (0, 5):
            for many in (1, 1000):
                line = FORGE + [machine(0, 1, 0)] * 6 + [order(number, many), state(number)]
                self.answered_all(line, [[0], [0, 0, 1, 0, many, 0, 0, 0]])

    def test_just_outside(self):
        before = FORGE + [machine(0, 1, 0)] * 6
        for told in ((-1, 1), (6, 1), (0, 0), (0, -1), (0, 1001), (FAR, 1), (-FAR, 1), (0, FAR), (0, -FAR)):
            self.refused(before, order(*told), -1)

    def test_no_such_machine(self):
        self.refused(FORGE, order(0, 1), -3)
        self.refused(FORGE + [machine(0, 1, 0)] * 2, order(2, 1), -3)
        self.refused(FORGE + [machine(0, 1, 0)] * 2, order(5, 1), -3)


class AskedState(Case):
    def test_it_changes_nothing(self):
        before = FORGE + [put(0, ORE, 5), machine(0, 1, 0), order(0, 2), tick(2)]
        self.unchanged(before, state(0), [0, 0, 1, 0, 1, 1, 2, 0])

    def test_just_outside(self):
        before = FORGE + [machine(0, 1, 0)] * 6
        self.answered(before + [state(5)], [0, 0, 1, 0, 0, 0, 0, 0])
        for number in (-1, 6, FAR, -FAR):
            self.refused(before, state(number), -1)

    def test_no_such_machine(self):
        self.refused(FORGE, state(0), -3)
        self.refused(FORGE + [machine(0, 1, 0)] * 2, state(2), -3)
        self.refused(FORGE + [machine(0, 1, 0)] * 2, state(5), -3)


class BagsOfMachines(Case):
    def test_what_is_taken_by_hand_is_not_there_for_it(self):
        line = FORGE + [put(0, ORE, 2), machine(0, 1, 0), order(0, 1), take(0, ORE, 1), tick(1), state(0)]
        self.answered(line, [0, 0, 1, 0, 1, 0, 0, 0])
