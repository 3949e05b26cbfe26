from helper import FAR, GROUND, Case, bag, fits, goods, load, put, stacks, take

TWO = goods(2, 5, 0, 3, 4, 0)
WIDE = [TWO, bag(GROUND, 1000000, 1, 40)]
FULL_OF_ONES = [goods(1, 100, 0), bag(GROUND, 1000000, 0, 40)]


class Put(Case):
    def test_new_stacks_are_full_but_the_last(self):
        self.answered_all(WIDE + [put(0, 0, 12), stacks(0)], [[0], [0, 0, 5, 0, 5, 0, 2]])
        self.answered(WIDE + [put(0, 0, 10), stacks(0)], [0, 0, 5, 0, 5])
        self.answered(WIDE + [put(0, 0, 1), stacks(0)], [0, 0, 1])

    def test_stacks_are_filled_up_before_new_ones_behind_all_others(self):
        line = WIDE + [put(0, 0, 3), put(0, 1, 6), put(0, 0, 9)]
        self.answered(line + [stacks(0)], [0, 0, 5, 1, 4, 1, 2, 0, 5, 0, 2])
        self.answered(line + [put(0, 1, 2), stacks(0)], [0, 0, 5, 1, 4, 1, 4, 0, 5, 0, 2])
        self.answered(line + [put(0, 1, 3), stacks(0)], [0, 0, 5, 1, 4, 1, 4, 0, 5, 0, 2, 1, 1])

    def test_it_weighs_and_takes_places_by_just_so_many(self):
        self.answered(WIDE + [put(0, 0, 12), put(0, 1, 1), load(0)], [0, 28, 999973, 4, -1])

    def test_only_the_bag_named_has_it(self):
        self.answered_all(WIDE + [bag(0, 99, 4, 9), bag(GROUND, 99, 0, 9), put(1, 0, 3), stacks(0), stacks(1), stacks(2),
                                  load(0), load(1), load(2)],
                          [[0], [0, 0, 3], [0], [0, 11, 999990, 1, -1], [0, 10, 93, 1, 0], [0, 0, 99, 0, -1]])

    def test_both_ends_of_how_many(self):
        self.answered(FULL_OF_ONES + [put(0, 0, 1)], [0])
        self.answered(FULL_OF_ONES + [put(0, 0, 4000)], [0])
        self.refused(FULL_OF_ONES, put(0, 0, 4001), -6)
        self.refused(FULL_OF_ONES, put(0, 0, 10000), -6)

    def test_just_outside(self):
        for told in ((-1, 0, 1), (12, 0, 1), (0, -1, 1), (0, 10, 1), (0, 0, 0), (0, 0, -1), (0, 0, 10001),
                     (FAR, 0, 1), (-FAR, 0, 1), (0, FAR, 1), (0, -FAR, 1), (0, 0, FAR), (0, 0, -FAR)):
            self.refused(WIDE, put(*told), -1)

    def test_the_last_bag_and_the_last_good(self):
        line = [goods(*[1, 1, 0] * 10)] + [bag(GROUND, 10, 0, 10)] * 12
        self.answered_all(line + [put(11, 9, 2), stacks(11)], [[0], [0, 9, 1, 9, 1]])

    def test_no_such_bag_or_good(self):
        self.refused(WIDE, put(1, 0, 1), -3)
        self.refused(WIDE, put(11, 0, 1), -3)
        self.refused(WIDE, put(0, 2, 1), -3)
        self.refused(WIDE, put(0, 9, 1), -3)

    def test_more_than_the_room_of_the_bag_itself(self):
        before = [TWO, bag(GROUND, 11, 50, 40)]
        self.answered(before + [put(0, 0, 5)], [0])
        self.refused(before, put(0, 0, 6), -6)
        self.refused(before + [put(0, 0, 4)], put(0, 0, 2), -6)
        self.answered(before + [put(0, 0, 4), put(0, 1, 1)], [0])
        self.refused([TWO, bag(GROUND, 0, 0, 40)], put(0, 0, 1), -6)

    def test_more_than_the_room_of_a_bag_around(self):
        before = [TWO, bag(GROUND, 15, 0, 9), bag(0, 99, 1, 9), bag(1, 99, 2, 9), put(0, 0, 1)]
        self.answered(before + [put(2, 0, 5)], [0])
        self.refused(before, put(2, 0, 6), -6)
        self.refused(before, put(1, 0, 6), -6)
        middle = [TWO, bag(GROUND, 99, 0, 9), bag(0, 9, 1, 9), bag(1, 99, 2, 9)]
        self.answered(middle + [put(2, 0, 3)], [0])
        self.refused(middle, put(2, 0, 4), -6)

    def test_more_than_its_places(self):
        before = [TWO, bag(GROUND, 1000, 0, 3), bag(0, 9, 0, 9), put(0, 0, 3)]
        self.answered(before + [put(0, 0, 7)], [0])
        self.refused(before, put(0, 0, 8), -6)
        self.refused(before + [put(0, 0, 7)], put(0, 1, 1), -6)
        self.refused([TWO, bag(GROUND, 1000, 0, 0)], put(0, 0, 1), -6)

    def test_stacks_are_filled_up_with_no_place_free(self):
        self.answered([TWO, bag(GROUND, 1000, 0, 1), put(0, 0, 3), put(0, 0, 2)], [0])

    def test_places_of_bags_around_are_not_asked(self):
        self.answered([TWO, bag(GROUND, 1000, 0, 1), bag(0, 1000, 0, 3), put(1, 0, 15)], [0])


class Take(Case):
    def test_from_the_last_stacks_first(self):
        line = WIDE + [put(0, 0, 8), put(0, 1, 3), put(0, 0, 4)]
        self.answered(line + [stacks(0)], [0, 0, 5, 0, 5, 1, 3, 0, 2])
        self.answered_all(line + [take(0, 0, 1), stacks(0)], [[0, 11], [0, 0, 5, 0, 5, 1, 3, 0, 1]])
        self.answered_all(line + [take(0, 0, 2), stacks(0)], [[0, 10], [0, 0, 5, 0, 5, 1, 3]])
        self.answered_all(line + [take(0, 0, 4), stacks(0)], [[0, 8], [0, 0, 5, 0, 3, 1, 3]])
        self.answered_all(line + [take(0, 0, 9), stacks(0)], [[0, 3], [0, 0, 3, 1, 3]])
        self.answered_all(line + [take(0, 0, 12), stacks(0)], [[0, 0], [0, 1, 3]])

    def test_it_weighs_less_by_just_so_many(self):
        self.answered(WIDE + [bag(0, 99, 0, 9), put(1, 0, 8), take(1, 0, 3), load(1)], [0, 10, 89, 1, 0])
        self.answered(WIDE + [bag(0, 99, 0, 9), put(1, 0, 8), take(1, 0, 3), load(0)], [0, 11, 999990, 1, -1])

    def test_what_was_taken_makes_room_again(self):
        line = [TWO, bag(GROUND, 10, 0, 1), put(0, 0, 5)]
        self.answered(line + [fits(0, 0)], [0, 0])
        self.answered(line + [take(0, 0, 5), fits(0, 0)], [0, 5])
        self.answered(line + [take(0, 0, 5), put(0, 1, 3), stacks(0)], [0, 1, 3])

    def test_not_so_many(self):
        self.refused(WIDE, take(0, 0, 1), -8)
        self.refused(WIDE + [put(0, 0, 7)], take(0, 0, 8), -8)
        self.refused(WIDE + [put(0, 0, 7)], take(0, 1, 1), -8)
        self.refused(WIDE + [put(0, 0, 7)], take(0, 0, 10000), -8)

    def test_bags_in_it_and_around_are_not_asked(self):
        before = WIDE + [bag(0, 99, 0, 9), put(1, 0, 3)]
        self.refused(before, take(0, 0, 1), -8)
        self.refused(WIDE + [bag(0, 99, 0, 9), put(0, 0, 3)], take(1, 0, 1), -8)

    def test_both_ends_of_how_many(self):
        self.answered(FULL_OF_ONES + [put(0, 0, 4000), take(0, 0, 1)], [0, 3999])
        self.answered(FULL_OF_ONES + [put(0, 0, 4000), take(0, 0, 4000)], [0, 0])

    def test_just_outside(self):
        for told in ((-1, 0, 1), (12, 0, 1), (0, -1, 1), (0, 10, 1), (0, 0, 0), (0, 0, -1), (0, 0, 10001),
                     (FAR, 0, 1), (-FAR, 0, 1), (0, FAR, 1), (0, -FAR, 1), (0, 0, FAR), (0, 0, -FAR)):
            self.refused(WIDE + [put(0, 0, 7)], take(*told), -1)

    def test_the_last_bag_and_the_last_good(self):
        line = [goods(*[1, 1, 0] * 10)] + [bag(GROUND, 10, 0, 10)] * 12 + [put(11, 9, 2)]
        self.answered_all(line + [take(11, 9, 1), stacks(11)], [[0, 1], [0, 9, 1]])

    def test_no_such_bag_or_good(self):
        before = WIDE + [put(0, 0, 7)]
        self.refused(before, take(1, 0, 1), -3)
        self.refused(before, take(11, 0, 1), -3)
        self.refused(before, take(0, 2, 1), -3)
        self.refused(before, take(0, 9, 1), -3)
