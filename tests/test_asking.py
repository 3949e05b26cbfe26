from helper import FAR, GROUND, Case, bag, fits, goods, load, put, stacks

TWO = goods(2, 5, 0, 3, 4, 0)
ALL = [goods(*[1, 1, 0] * 10)] + [bag(GROUND, 10, 0, 10)] * 12


class Asking(Case):
    def test_both_ends_of_each_range(self):
        for b in (0, 11):
            self.answered(ALL + [put(b, 9, 1), stacks(b)], [0, 9, 1])
            self.answered(ALL + [put(b, 9, 1), load(b)], [0, 1, 9, 1, -1])
            for g in (0, 9):
                self.answered(ALL + [put(b, 9, 1), fits(b, g)], [0, 9])

    def test_just_outside(self):
        before = [TWO, bag(GROUND, 99, 0, 9)]
        for b in (-1, 12, FAR, -FAR):
            for call in (stacks(b), load(b), fits(b, 0)):
                self.refused(before, call, -1)
        for g in (-1, 10, FAR, -FAR):
            self.refused(before, fits(0, g), -1)

    def test_no_such_bag_or_good(self):
        before = [TWO, bag(GROUND, 99, 0, 9)]
        for b in (1, 11):
            for call in (stacks(b), load(b), fits(b, 0)):
                self.refused(before, call, -3)
        for g in (2, 9):
            self.refused(before, fits(0, g), -3)

    def test_stacks_of_the_bag_alone(self):
        line = [TWO, bag(GROUND, 99, 0, 9), bag(0, 99, 0, 9), put(0, 1, 5), put(1, 0, 6)]
        self.answered(line + [stacks(0)], [0, 1, 4, 1, 1])
        self.answered(line + [stacks(1)], [0, 0, 5, 0, 1])

    def test_load_of_bags_in_bags(self):
        line = [TWO, bag(GROUND, 99, 1, 9), bag(0, 98, 2, 9), bag(1, 97, 4, 9), bag(0, 96, 8, 9), put(0, 0, 6),
                put(1, 1, 1), put(2, 0, 1), put(3, 1, 5)]
        self.answered(line + [load(0)], [0, 47, 53, 4, -1])
        self.answered(line + [load(1)], [0, 11, 89, 2, 0])
        self.answered(line + [load(2)], [0, 6, 95, 1, 1])
        self.answered(line + [load(3)], [0, 23, 81, 2, 0])


class Fits(Case):
    def just_so_many(self, line, b, g, many):
        """So many are told to fit; they can be put, and one more can't."""
        self.answered(line + [fits(b, g)], [0, many])
        self.refused(line, put(b, g, many + 1), -6)
        if many > 0:
            self.answered_all(line + [put(b, g, many), fits(b, g)], [[0], [0, 0]])

    def test_by_room(self):
        self.just_so_many([TWO, bag(GROUND, 13, 50, 9)], 0, 0, 6)
        self.just_so_many([TWO, bag(GROUND, 13, 0, 9), put(0, 0, 2)], 0, 1, 3)
        self.just_so_many([TWO, bag(GROUND, 1, 0, 9)], 0, 0, 0)

    def test_by_places(self):
        self.just_so_many([TWO, bag(GROUND, 999, 0, 2)], 0, 0, 10)
        self.just_so_many([TWO, bag(GROUND, 999, 0, 3), put(0, 0, 7), put(0, 1, 1)], 0, 0, 3)
        self.just_so_many([TWO, bag(GROUND, 999, 0, 3), put(0, 0, 7), put(0, 1, 1)], 0, 1, 3)
        self.just_so_many([TWO, bag(GROUND, 999, 0, 3), put(0, 0, 7), bag(0, 0, 0, 0)], 0, 1, 0)
        self.just_so_many([TWO, bag(GROUND, 999, 0, 0)], 0, 0, 0)

    def test_by_bags_around(self):
        self.just_so_many([TWO, bag(GROUND, 13, 0, 1), bag(0, 99, 1, 9)], 1, 0, 6)
        self.just_so_many([TWO, bag(GROUND, 99, 0, 1), bag(0, 13, 1, 9), bag(1, 99, 1, 9)], 2, 0, 6)

    def test_bags_in_it_are_not_filled(self):
        self.just_so_many([TWO, bag(GROUND, 999, 0, 2), bag(0, 99, 0, 9)], 0, 0, 5)

    def test_the_most(self):
        self.just_so_many([goods(1, 100, 0), bag(GROUND, 1000000, 0, 40)], 0, 0, 4000)
        self.just_so_many([goods(1000, 100, 0), bag(GROUND, 1000000, 0, 40)], 0, 0, 1000)
