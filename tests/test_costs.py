from helper import Case, bag, costs, priced, put, recipe


class Costs(Case):
    def test_prices_alone(self):
        self.answered([priced(5, 0, 1000, 1), costs()], [0, 5, 0, 1000, 1])

    def test_a_recipe_without_needs(self):
        self.answered([priced(0), recipe(0, 7, 50), costs()], [0, 7])

    def test_the_least_of_price_and_recipes(self):
        self.answered([priced(9, 2), recipe(0, 2, 1, 1, 3), costs()], [0, 8, 2])
        self.answered([priced(7, 2), recipe(0, 2, 1, 1, 3), costs()], [0, 7, 2])
        self.answered([priced(0, 2), recipe(0, 2, 1, 1, 3), recipe(0, 3, 1, 1, 2), recipe(0, 9, 1), costs()],
                      [0, 7, 2])

    def test_needs_that_are_made_themselves(self):
        line = [priced(0, 0, 0, 4), recipe(0, 1, 1, 1, 2), recipe(1, 1, 1, 2, 3, 3, 1), recipe(2, 10, 1, 3, 9)]
        self.answered(line + [costs()], [0, 287, 143, 46, 4])

    def test_a_lower_cost_reaches_all_that_need_it(self):
        line = [priced(0, 0, 0, 0, 9)] + [recipe(k, 1, 1, k + 1, 2) for k in range(4)]
        self.answered(line + [costs()], [0, 159, 79, 39, 19, 9])
        self.answered(line + [recipe(4, 1, 1), costs()], [0, 31, 15, 7, 3, 1])

    def test_a_row_as_long_as_there_are_goods(self):
        down = [recipe(k, 1, 1, k + 1, 1) for k in range(9)]
        for steps in (down, down[::-1]):
            self.answered([priced(*[0] * 10)] + steps + [recipe(9, 3, 1), costs()],
                          [0] + [12 - k for k in range(10)])

    def test_no_cost(self):
        self.answered([priced(0, 0, 3), recipe(0, 1, 1, 1, 1), costs()], [0, 0, 0, 3])
        self.answered([priced(0, 0, 3), recipe(0, 1, 1, 2, 1, 1, 1), costs()], [0, 0, 0, 3])
        self.answered([priced(5, 0, 3), recipe(0, 1, 1, 2, 1, 1, 1), costs()], [0, 5, 0, 3])

    def test_rings_of_recipes(self):
        ring = [recipe(0, 1, 1, 1, 1), recipe(1, 1, 1, 0, 1)]
        self.answered([priced(0, 0)] + ring + [costs()], [0, 0, 0])
        self.answered([priced(0, 5)] + ring + [costs()], [0, 6, 5])
        self.answered([priced(9, 2)] + ring + [costs()], [0, 3, 2])
        self.answered([priced(4, 0), recipe(0, 1, 1, 0, 1), costs()], [0, 4, 0])

    def test_great_costs_are_exact(self):
        line = [priced(1000, 1000, 1000, 1000, 0, 0, 0, 0, 0, 0)]
        line += [recipe(k, 1000, 1, k - 4, 9, k - 3, 9, k - 2, 9, k - 1, 9) for k in range(4, 10)]
        expected = [1000] * 4
        for k in range(4, 10):
            expected.append(1000 + 9 * sum(expected[k - 4:k]))
        self.answered(line + [costs()], [0] + expected)

    def test_what_lies_in_bags_changes_no_cost(self):
        self.answered([priced(0, 5), bag(-1, 100, 0, 9), put(0, 0, 3), costs()], [0, 0, 5])

    def test_without_goods(self):
        self.refused([], costs(), -2)
