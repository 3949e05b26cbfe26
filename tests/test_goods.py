from helper import FAR, Case, bag, costs, fits, goods, put, recipe, stacks


class Goods(Case):
    def test_how_many(self):
        for many in range(1, 11):
            self.answered([goods(*[5, 6, 7] * many)], [0, many])

    def test_lengths(self):
        for length in range(41):
            call = goods(*[1] * length)
            if 3 <= length <= 30 and length % 3 == 0:
                self.answered([call], [0, length // 3])
            else:
                self.refused([], call, -1)

    def test_both_ends_of_each_range(self):
        for told in ((1, 1, 0), (1000, 1, 0), (1, 100, 0), (1, 1, 1000), (1000, 100, 1000)):
            self.answered([goods(*told)], [0, 1])
            self.answered([goods(2, 2, 2, *told)], [0, 2])

    def test_just_outside(self):
        for told in ((0, 1, 0), (1001, 1, 0), (1, 0, 0), (1, 101, 0), (1, 1, -1), (1, 1, 1001),
                     (-FAR, 1, 1), (FAR, 1, 1), (1, FAR, 1), (1, -FAR, 1), (1, 1, FAR), (1, 1, -FAR)):
            self.refused([], goods(*told), -1)
            self.refused([], goods(2, 2, 2, *told), -1)
            self.refused([], goods(*told, 2, 2, 2), -1)

    def test_weight_size_and_price_in_this_order(self):
        line = [goods(7, 3, 11, 2, 5, 13), bag(-1, 70, 0, 2)]
        self.answered(line + [costs()], [0, 11, 13])
        self.answered(line + [fits(0, 0)], [0, 6])
        self.answered(line + [put(0, 0, 4), stacks(0)], [0, 0, 3, 0, 1])
        self.answered(line + [bag(-1, 15, 0, 2), fits(1, 0)], [0, 2])
        self.answered(line + [bag(-1, 15, 0, 2), fits(1, 1)], [0, 7])

    def test_goods_are_told_once(self):
        first = [goods(2, 3, 4), bag(-1, 100, 0, 4)]
        self.refused(first, goods(2, 3, 4), -5)
        self.refused(first, goods(9, 9, 9, 9, 9, 9), -5)

    def test_refused_goods_leave_none(self):
        self.answered_all([goods(0, 1, 1), costs(), goods(1, 1, 1), costs()], [[-1], [-2], [0, 1], [0, 1]])

    def test_goods_are_not_numbered_anew_by_recipes(self):
        self.answered([goods(1, 1, 5, 1, 1, 0), recipe(1, 2, 1, 0, 3), costs()], [0, 5, 17])
