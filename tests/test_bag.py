from helper import FAR, GROUND, Case, bag, fits, goods, load, put, stacks

ONE = goods(2, 5, 0)


class Bag(Case):
    def test_numbers_in_order_and_no_more_than_12(self):
        line = [ONE] + [bag(GROUND, 10, 1, 1) for k in range(12)]
        self.answered_all(line, [[0, k] for k in range(12)])
        self.refused(line, bag(GROUND, 10, 1, 1), -4)
        self.refused(line, bag(11, 10, 1, 1), -4)

    def test_refused_ones_take_no_number(self):
        self.answered_all([ONE, bag(0, 1, 1, 1), bag(GROUND, -1, 1, 1), bag(GROUND, 0, 0, 0), bag(0, 1, 1, 1),
                           bag(GROUND, 1, 1, 1)], [[-3], [-1], [0, 0], [-6], [0, 1]])

    def test_a_new_bag_is_empty(self):
        self.answered_all([ONE, bag(GROUND, 100, 7, 3), stacks(0), load(0), fits(0, 0)],
                          [[0], [0, 7, 100, 0, -1], [0, 15]])

    def test_a_bag_in_a_bag(self):
        self.answered_all([ONE, bag(GROUND, 100, 7, 3), bag(0, 50, 4, 2), load(0), load(1)],
                          [[0, 11, 96, 1, -1], [0, 4, 50, 0, 0]])

    def test_both_ends_of_each_range(self):
        for told in ((0, 0, 0), (1000000, 0, 0), (0, 1000, 0), (0, 0, 40), (1000000, 1000, 40)):
            self.answered_all([ONE, bag(GROUND, *told), load(0)],
                              [[0, 0], [0, told[1], told[0], 0, -1]])
        self.answered_all([ONE] + [bag(k, 1000000, 1, 1) for k in range(-1, 11)], [[0, 11]])
        self.answered_all([ONE, bag(11, 0, 0, 0)], [[-3]])

    def test_just_outside(self):
        before = [ONE, bag(GROUND, 100, 0, 9)]
        for told in ((-2, 0, 0, 0), (12, 0, 0, 0), (0, -1, 0, 0), (0, 1000001, 0, 0), (0, 0, -1, 0), (0, 0, 1001, 0),
                     (0, 0, 0, -1), (0, 0, 0, 41), (FAR, 0, 0, 0), (-FAR, 0, 0, 0), (0, FAR, 0, 0), (0, -FAR, 0, 0),
                     (0, 0, FAR, 0), (0, 0, -FAR, 0), (0, 0, 0, FAR), (0, 0, 0, -FAR)):
            self.refused(before, bag(*told), -1)

    def test_no_such_bag(self):
        self.refused([ONE], bag(0, 1, 1, 1), -3)
        self.refused([ONE, bag(GROUND, 100, 0, 9)], bag(1, 1, 1, 1), -3)

    def test_own_weight_is_no_matter_of_its_own_room(self):
        self.answered_all([ONE, bag(GROUND, 0, 1000, 0), load(0)], [[0, 0], [0, 1000, 0, 0, -1]])

    def test_only_its_own_weight_counts_in_the_bag_around(self):
        self.answered([ONE, bag(GROUND, 10, 0, 2), bag(0, 1000000, 10, 40)], [0, 1])

    def test_more_than_the_room_of_the_bag_itself(self):
        before = [ONE, bag(GROUND, 10, 0, 9), put(0, 0, 2)]
        self.answered(before + [bag(0, 0, 6, 0)], [0, 1])
        self.refused(before, bag(0, 0, 7, 0), -6)

    def test_more_than_the_room_of_a_bag_around(self):
        before = [ONE, bag(GROUND, 10, 0, 9), bag(0, 100, 1, 9), bag(1, 100, 1, 9)]
        self.answered(before + [bag(2, 100, 8, 9)], [0, 3])
        self.refused(before, bag(2, 100, 9, 9), -6)
        self.refused(before, bag(1, 100, 9, 9), -6)

    def test_more_than_its_places(self):
        self.refused([ONE, bag(GROUND, 100, 0, 0)], bag(0, 0, 0, 0), -6)
        self.refused([ONE, bag(GROUND, 100, 0, 1), put(0, 0, 1)], bag(0, 0, 0, 0), -6)
        self.refused([ONE, bag(GROUND, 100, 0, 1), bag(0, 9, 0, 9)], bag(0, 0, 0, 0), -6)
        self.answered([ONE, bag(GROUND, 100, 0, 2), put(0, 0, 1), bag(0, 0, 0, 0)], [0, 1])

    def test_places_of_bags_around_are_not_asked(self):
        self.answered([ONE, bag(GROUND, 100, 0, 1), bag(0, 100, 0, 1), bag(1, 0, 0, 0)], [0, 2])
