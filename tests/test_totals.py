from helper import (FAR, GROUND, Case, bag, carry, count, find, goods, machine, make, move, order, priced, put, recipe,
                    take, tick, totals)

TWO = goods(1, 5, 2, 3, 4, 0)
BAGS = [TWO, recipe(1, 7, 2, 0, 2), bag(GROUND, 99, 1, 9), bag(0, 60, 2, 9), bag(GROUND, 99, 0, 9)]
TEN = [priced(*[1] * 10)] + [bag(GROUND, 99, 0, 9)] * 12


class Count(Case):
    def test_all_bags_together(self):
        line = BAGS + [put(0, 0, 7), put(1, 0, 6), put(2, 0, 1), put(0, 1, 2)]
        self.unchanged(line, count(0), [0, 14])
        self.unchanged(line, count(1), [0, 2])
        self.answered(BAGS + [count(0)], [0, 0])
        self.answered([TWO, count(1)], [0, 0])

    def test_behind_each_change(self):
        line = BAGS + [put(0, 0, 7), take(0, 0, 2), move(0, 1, 0, 3), carry(1, 2), count(0), find(0)]
        self.answered_all(line, [[0, 5], [0, 0, 1]])
        self.answered_all(line + [make(1, 1, 2), count(0), count(1), find(0), find(1)],
                          [[0, 16], [0, 2], [0, 2], [0, 0], [0, 1]])
        self.answered_all(line + [machine(1, 2, 0), order(0, 1), tick(2), count(0), count(1), find(0), find(1)],
                          [[0, 2], [0, 3], [0, 0], [0, 0, 1], [0]])
        self.answered_all(line + [machine(1, 2, 0), order(0, 1), tick(3), count(0), count(1), find(0), find(1)],
                          [[0, 3], [0, 3], [0, 1], [0, 0, 1], [0, 2]])

    def test_the_most(self):
        line = [goods(1, 100, 0)] + [bag(GROUND, 1000000, 0, 40)] * 12 + [put(b, 0, 4000) for b in range(12)]
        self.answered(line + [count(0)], [0, 48000])


class Find(Case):
    def test_right_in_them_by_their_numbers(self):
        line = BAGS + [put(2, 0, 1), put(1, 0, 6), put(0, 1, 2), put(2, 1, 5)]
        self.unchanged(line, find(0), [0, 1, 2])
        self.unchanged(line, find(1), [0, 0, 2])

    def test_each_bag_once(self):
        self.answered(BAGS + [put(1, 0, 12), put(1, 1, 9), find(0)], [0, 1])

    def test_none(self):
        self.answered([TWO, find(0)], [0])
        self.answered(BAGS + [put(0, 1, 1), find(0)], [0])
        self.answered(BAGS + [put(0, 0, 1), take(0, 0, 1), find(0)], [0])

    def test_all(self):
        self.answered(TEN + [put(b, 9, 1) for b in reversed(range(12))] + [find(9)], [0, *range(12)])


class CountAndFind(Case):
    def test_both_ends(self):
        line = TEN + [put(11, 9, 2), put(3, 0, 1)]
        self.answered_all(line + [count(0), count(9), find(0), find(9)], [[0, 1], [0, 2], [0, 3], [0, 11]])

    def test_just_outside(self):
        for g in (-1, 10, FAR, -FAR):
            self.refused(TEN, count(g), -1)
            self.refused(TEN, find(g), -1)

    def test_no_such_good(self):
        for g in (2, 9):
            self.refused(BAGS, count(g), -3)
            self.refused(BAGS, find(g), -3)


class Totals(Case):
    def test_with_nothing_there(self):
        self.unchanged([], totals(), [0, 0, 0, 0, 0, 0, 0])
        self.answered([tick(5), put(0, 0, 1), totals()], [0, 0, 0, 0, 0, 0, 0])

    def test_each(self):
        line = BAGS + [machine(0, 1, 0), machine(0, 1, 0), make(0, 0, 3), tick(9), make(2, 1, 1), tick(1)]
        self.unchanged(line, totals(), [0, 2, 1, 3, 2, 17, 10])

    def test_the_most(self):
        line = [priced(*[1] * 10)] + [recipe(0, 1, 1)] * 16 + [bag(GROUND, 9, 0, 9)] * 12 + [machine(0, 0, 0)] * 6
        self.answered(line + [totals()], [0, 10, 16, 12, 6, 0, 0])

    def test_refused_calls_are_not_counted(self):
        line = BAGS + [TWO, recipe(2, 1, 1), bag(3, 0, 0, 0), machine(0, 3, 0), make(0, 1, 50), tick(0), totals()]
        self.answered_all(line, [[-5], [-3], [-3], [-3], [-6], [-1], [0, 2, 1, 3, 0, 0, 0]])
