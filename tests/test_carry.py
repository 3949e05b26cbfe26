from helper import FAR, GROUND, Case, bag, carry, goods, load, put, run, stacks

ONE = goods(2, 5, 0)
NEST = [ONE, bag(GROUND, 1000, 1, 9), bag(0, 100, 2, 9), bag(1, 50, 4, 9), put(2, 0, 3)]


class Carry(Case):
    def test_into_a_bag_with_all_that_it_holds(self):
        line = [ONE, bag(GROUND, 100, 1, 9), bag(GROUND, 50, 4, 9), put(1, 0, 3), carry(1, 0)]
        self.answered_all(line + [load(0), load(1), stacks(0), stacks(1)],
                          [[0], [0, 11, 90, 1, -1], [0, 10, 44, 1, 0], [0], [0, 0, 3]])

    def test_onto_the_ground(self):
        self.answered_all(NEST + [carry(1, GROUND), load(0), load(1), load(2)],
                          [[0], [0, 1, 1000, 0, -1], [0, 12, 90, 1, -1], [0, 10, 44, 1, 1]])

    def test_outward_and_inward_again(self):
        outward = NEST + [carry(2, 0)]
        self.answered_all(outward + [load(0), load(1), load(2)],
                          [[0], [0, 13, 988, 2, -1], [0, 2, 100, 0, 0], [0, 10, 44, 1, 0]])
        self.answered_all(outward + [carry(2, 1), load(0), load(1), load(2)],
                          [[0], [0, 13, 988, 1, -1], [0, 12, 90, 1, 0], [0, 10, 44, 1, 1]])

    def test_what_comes_later_counts_in_the_bags_around_now(self):
        self.answered_all(NEST + [carry(1, GROUND), put(2, 0, 1), load(0), load(1)],
                          [[0, 1, 1000, 0, -1], [0, 14, 88, 1, -1]])
        self.answered_all([ONE, bag(GROUND, 100, 0, 9), bag(GROUND, 9, 0, 9), carry(1, 0), put(1, 0, 2), load(0)],
                          [[0, 4, 96, 1, -1]])

    def test_to_where_it_lies_already(self):
        line = [ONE, bag(GROUND, 10, 0, 1), bag(0, 100, 4, 9), put(1, 0, 3)]
        self.answered_all(line + [carry(1, 0), load(0), load(1)], [[0], [0, 10, 0, 1, -1], [0, 10, 94, 1, 0]])
        self.answered_all(line + [carry(0, GROUND), load(0)], [[0], [0, 10, 0, 1, -1]])

    def test_within_a_full_bag(self):
        line = [ONE, bag(GROUND, 10, 0, 2), bag(0, 100, 4, 9), bag(0, 100, 6, 9)]
        self.answered_all(line + [carry(2, 1), load(0), load(1)], [[0], [0, 10, 0, 1, -1], [0, 10, 94, 1, 0]])
        self.answered_all(line + [carry(2, 1), carry(2, 0), load(0)], [[0], [0], [0, 10, 0, 2, -1]])

    def test_more_than_the_room_of_the_bag_itself(self):
        before = [ONE, bag(GROUND, 10, 0, 9), bag(GROUND, 100, 4, 9), put(1, 0, 3)]
        self.answered(before + [carry(1, 0)], [0])
        self.refused(before + [put(1, 0, 1)], carry(1, 0), -6)
        self.refused(before + [put(0, 0, 1)], carry(1, 0), -6)

    def test_more_than_the_room_of_a_bag_around(self):
        before = [ONE, bag(GROUND, 12, 0, 9), bag(0, 99, 1, 9), bag(1, 99, 1, 9), bag(GROUND, 99, 4, 9), put(3, 0, 3)]
        for b in (0, 1, 2):
            self.answered(before + [carry(3, b)], [0])
            self.refused(before + [put(3, 0, 1)], carry(3, b), -6)

    def test_more_than_the_room_with_bags_in_the_bag(self):
        before = [ONE, bag(GROUND, 9, 0, 9), bag(GROUND, 99, 1, 9), bag(1, 99, 3, 9), put(2, 0, 3)]
        self.refused(before, carry(1, 0), -6)
        self.answered(before + [carry(2, 0)], [0])

    def test_refused_out_of_a_nest(self):
        self.refused(NEST + [bag(GROUND, 9, 0, 9)], carry(2, 3), -6)
        self.refused(NEST + [bag(0, 9, 0, 9)], carry(2, 3), -6)

    def test_more_than_its_places(self):
        for before in ([bag(GROUND, 99, 0, 0)], [bag(GROUND, 99, 0, 1), put(0, 0, 1)],
                       [bag(GROUND, 99, 0, 3), put(0, 0, 11)]):
            line = [ONE] + before + [bag(GROUND, 0, 0, 0)]
            self.refused(line, carry(1, 0), -6)
        both = [ONE, bag(GROUND, 99, 0, 1), bag(0, 0, 0, 0), bag(GROUND, 0, 0, 0)]
        self.refused(both, carry(2, 0), -6)
        self.answered(both + [carry(1, GROUND), carry(2, 0)], [0])

    def test_into_itself_or_what_lies_in_it(self):
        for b in (0, 1, 2):
            self.refused(NEST, carry(0, b), -6)
        self.refused(NEST, carry(1, 1), -6)
        self.refused(NEST, carry(1, 2), -6)
        self.refused(NEST, carry(2, 2), -6)
        deep = [ONE] + [bag(k, 1000, 0, 2) for k in range(-1, 11)]
        self.refused(deep, carry(0, 11), -6)
        self.answered(deep + [carry(11, 0)], [0])

    def test_a_ring_is_asked_of_where_bags_lie_now(self):
        line = NEST + [carry(2, GROUND)]
        self.answered_all(line + [carry(0, 2), load(2)], [[0], [0, 13, 41, 2, -1]])
        self.refused(line + [carry(0, 2)], carry(2, 1), -6)

    def test_both_ends_of_each_range(self):
        line = [ONE] + [bag(GROUND, 10, 1, 9)] * 12
        self.assertEqual(run(line + [carry(11, 0), carry(11, GROUND), carry(0, 11), carry(10, 11)])[-4:], [[0]] * 4)

    def test_just_outside(self):
        for told in ((-1, 0), (12, 0), (1, -2), (1, 12), (FAR, 0), (-FAR, 0), (1, FAR), (1, -FAR), (-1, -1)):
            self.refused(NEST, carry(*told), -1)

    def test_no_such_bag(self):
        for told in ((3, 0), (0, 3), (11, GROUND), (0, 11), (3, 3)):
            self.refused(NEST, carry(*told), -3)
