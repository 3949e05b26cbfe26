from helper import FAR, GROUND, Case, bag, goods, load, move, put, stacks

TWO = goods(2, 5, 0, 3, 4, 0)
PAIR = [TWO, bag(GROUND, 1000, 0, 9), bag(GROUND, 1000, 0, 9)]


class Move(Case):
    def test_taken_from_the_last_and_put_to_the_first(self):
        line = PAIR + [put(0, 0, 8), put(0, 1, 3), put(0, 0, 4), put(1, 0, 3), put(1, 1, 1)]
        self.answered_all(line + [move(0, 1, 0, 4), stacks(0), stacks(1)],
                          [[0], [0, 0, 5, 0, 3, 1, 3], [0, 0, 5, 1, 1, 0, 2]])
        self.answered_all(line + [move(0, 1, 0, 12), stacks(0), stacks(1), load(0), load(1)],
                          [[0], [0, 1, 3], [0, 0, 5, 1, 1, 0, 5, 0, 5], [0, 9, 991, 1, -1], [0, 33, 967, 4, -1]])

    def test_within_one_bag(self):
        line = [TWO, bag(GROUND, 22, 0, 2), put(0, 0, 5), put(0, 1, 4)]
        self.answered_all(line + [move(0, 0, 0, 3), stacks(0)], [[0], [0, 0, 5, 1, 4]])
        self.answered_all(line + [move(0, 0, 0, 5), stacks(0), load(0)], [[0], [0, 1, 4, 0, 5], [0, 22, 0, 2, -1]])

    def test_between_a_bag_and_one_in_it_with_no_room_left_around(self):
        line = [TWO, bag(GROUND, 11, 0, 3), bag(0, 10, 1, 3)]
        self.answered_all(line + [put(1, 0, 5), move(1, 0, 0, 5), stacks(0), stacks(1), load(0), load(1)],
                          [[0], [0, 0, 5], [0], [0, 11, 0, 2, -1], [0, 1, 10, 0, 0]])
        self.answered_all(line + [put(0, 0, 5), move(0, 1, 0, 5), stacks(0), stacks(1), load(0), load(1)],
                          [[0], [0], [0, 0, 5], [0, 11, 0, 1, -1], [0, 11, 0, 1, 0]])

    def test_not_so_many(self):
        self.refused(PAIR, move(0, 1, 0, 1), -8)
        self.refused(PAIR + [put(0, 0, 7), put(1, 0, 9)], move(0, 1, 0, 8), -8)
        self.refused(PAIR + [put(0, 0, 7)], move(0, 0, 0, 8), -8)
        self.refused(PAIR + [put(0, 0, 7)], move(0, 1, 1, 1), -8)

    def test_not_so_many_and_no_room_for_them(self):
        self.refused([TWO, bag(GROUND, 99, 0, 9), bag(GROUND, 0, 0, 0), put(0, 0, 3)], move(0, 1, 0, 4), -8)

    def test_more_than_the_room_of_the_bag_itself(self):
        before = [TWO, bag(GROUND, 99, 0, 9), bag(GROUND, 7, 0, 9), put(0, 0, 5), put(0, 1, 1)]
        self.answered(before + [move(0, 1, 0, 3)], [0])
        self.refused(before, move(0, 1, 0, 4), -6)
        self.refused(before, move(0, 1, 0, 5), -6)

    def test_more_than_the_room_of_a_bag_around(self):
        before = [TWO, bag(GROUND, 99, 0, 9), bag(GROUND, 7, 0, 9), bag(1, 99, 1, 9), put(0, 0, 5), put(0, 1, 1)]
        self.answered(before + [move(0, 2, 0, 3)], [0])
        self.refused(before, move(0, 2, 0, 4), -6)
        self.refused(before, move(0, 2, 0, 5), -6)

    def test_more_than_its_places(self):
        before = [TWO, bag(GROUND, 99, 0, 9), bag(GROUND, 99, 0, 2), bag(1, 9, 0, 9), put(1, 0, 3), put(0, 0, 5),
                  put(0, 1, 1)]
        self.answered(before + [move(0, 1, 0, 2)], [0])
        self.refused(before, move(0, 1, 0, 3), -6)
        self.refused(before, move(0, 1, 0, 5), -6)
        self.refused(before, move(0, 1, 1, 1), -6)

    def test_refused_in_nested_bags(self):
        before = [TWO, bag(GROUND, 99, 0, 9), bag(0, 3, 1, 9), put(0, 0, 5), put(0, 1, 1)]
        self.refused(before, move(0, 1, 0, 5), -6)
        outward = [TWO, bag(GROUND, 99, 0, 1), bag(0, 99, 1, 9), put(1, 0, 5), put(1, 1, 1)]
        self.refused(outward, move(1, 0, 0, 5), -6)

    def test_both_ends_of_how_many(self):
        line = [goods(1, 100, 0), bag(GROUND, 1000000, 0, 40), bag(GROUND, 1000000, 0, 40), put(0, 0, 4000)]
        self.answered_all(line + [move(0, 1, 0, 1), load(1)], [[0], [0, 1, 999999, 1, -1]])
        self.answered_all(line + [move(0, 1, 0, 4000), load(1)], [[0], [0, 4000, 996000, 40, -1]])
        self.refused(line, move(0, 1, 0, 10000), -8)

    def test_just_outside(self):
        for told in ((-1, 1, 0, 1), (12, 1, 0, 1), (0, -1, 0, 1), (0, 12, 0, 1), (0, 1, -1, 1), (0, 1, 10, 1),
                     (0, 1, 0, 0), (0, 1, 0, -1), (0, 1, 0, 10001), (FAR, 1, 0, 1), (-FAR, 1, 0, 1), (0, FAR, 0, 1),
                     (0, -FAR, 0, 1), (0, 1, FAR, 1), (0, 1, -FAR, 1), (0, 1, 0, FAR), (0, 1, 0, -FAR)):
            self.refused(PAIR + [put(0, 0, 7)], move(*told), -1)

    def test_the_last_bags_and_the_last_good(self):
        line = [goods(*[1, 1, 0] * 10)] + [bag(GROUND, 10, 0, 10)] * 12 + [put(11, 9, 2)]
        self.answered_all(line + [move(11, 10, 9, 1), stacks(10), stacks(11)], [[0], [0, 9, 1], [0, 9, 1]])
        self.answered_all(line + [move(11, 0, 9, 1), move(0, 11, 9, 1), stacks(11)], [[0], [0], [0, 9, 1, 9, 1]])

    def test_no_such_bag_or_good(self):
        before = PAIR + [put(0, 0, 7)]
        for told in ((2, 0, 0, 1), (0, 2, 0, 1), (11, 0, 0, 1), (0, 11, 0, 1), (0, 1, 2, 1), (0, 1, 9, 1)):
            self.refused(before, move(*told), -3)
