from helper import FAR, Case, costs, goods, recipe

TEN = goods(*[1, 1, 1] * 10)
TWO = goods(1, 1, 5, 1, 1, 0)


class Recipes(Case):
    def test_numbers_in_order_and_no_more_than_16(self):
        line = [TWO] + [recipe(1, 9, 1, 0, 1) for k in range(16)]
        self.answered_all(line, [[0, k] for k in range(16)])
        self.refused(line, recipe(1, 1, 1), -4)
        self.refused(line, recipe(0, 1, 50, 1, 9), -4)

    def test_refused_ones_take_no_number(self):
        self.answered_all([TWO, recipe(0, 0, 1), recipe(2, 1, 1), recipe(0, 1, 1, 1, 1, 1, 1), recipe(0, 1, 1)],
                          [[-1], [-3], [-7], [0, 0]])

    def test_lengths(self):
        for length in range(41):
            needs = [(k // 2) % 10 if k % 2 == 0 else 1 for k in range(length)]
            if length <= 8 and length % 2 == 0:
                self.answered([TEN, recipe(0, 1, 1, *needs)], [0, 0])
            else:
                self.refused([TEN], recipe(0, 1, 1, *needs), -1)

    def test_both_ends_of_each_range(self):
        for told in ((0, 1, 1), (9, 1, 1), (0, 1000, 1), (0, 1, 50), (0, 1, 1, 0, 1), (0, 1, 1, 9, 1), (0, 1, 1, 0, 9),
                     (9, 1000, 50, 1, 1, 2, 9, 9, 9, 0, 1)):
            self.answered([TEN, recipe(*told)], [0, 0])

    def test_just_outside(self):
        for told in ((-1, 1, 1), (10, 1, 1), (0, 0, 1), (0, 1001, 1), (0, 1, 0), (0, 1, 51), (0, 1, 1, -1, 1),
                     (0, 1, 1, 10, 1), (0, 1, 1, 0, 0), (0, 1, 1, 0, 10), (0, 1, 1, 0, 1, 10, 1), (0, 1, 1, 0, 1, 1, 10),
                     (0, 1, 1, 0, 1, 1, 1, 2, 1, 3, 0), (0, 1, 1, 0, 1, 1, 1, 2, 1, -1, 1),
                     (FAR, 1, 1), (-FAR, 1, 1), (0, FAR, 1), (0, -FAR, 1), (0, 1, FAR), (0, 1, -FAR)):
            self.refused([TEN], recipe(*told), -1)

    def test_no_such_good(self):
        self.refused([TWO], recipe(2, 1, 1), -3)
        self.refused([TWO], recipe(9, 1, 1, 0, 1), -3)
        self.refused([TWO], recipe(0, 1, 1, 2, 1), -3)
        self.refused([TWO], recipe(0, 1, 1, 0, 1, 1, 1, 9, 1), -3)

    def test_one_good_needed_twice(self):
        self.refused([TWO], recipe(1, 1, 1, 0, 1, 0, 1), -7)
        self.refused([TEN], recipe(0, 1, 1, 3, 1, 2, 1, 1, 1, 3, 9), -7)

    def test_how_many_may_be_the_same(self):
        self.answered([TEN, recipe(0, 1, 1, 1, 2, 2, 2, 3, 3)], [0, 0])

    def test_a_recipe_may_need_what_it_makes(self):
        self.answered_all([TWO, recipe(1, 3, 1, 1, 1), costs()], [[0, 0], [0, 5, 0]])
