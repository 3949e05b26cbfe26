from bagsmade.world import answers
from helper import (FAR, GROUND, Case, apart, bag, carry, costs, count, fair, find, fits, flat, goods, load, machine,
                    make, move, order, plan, put, recipe, run, stacks, state, take, tick, totals)

LINE = [goods(2, 5, 3, 3, 4, 0), recipe(1, 7, 2, 0, 2), bag(GROUND, 99, 1, 9), bag(0, 40, 2, 5), put(1, 0, 7),
        take(1, 0, 1), move(1, 0, 0, 2), carry(1, GROUND), stacks(1), load(1), fits(1, 1), costs(), put(0, 0, FAR),
        goods(1, 1, 1), take(0, 1, 1), bag(GROUND, 5, 5, 5), fair(3, 13), fair(3, 14), plan(1, 1, 3), make(1, 1, 3),
        stacks(1), machine(0, 1, 0), order(0, 2), tick(1), state(0), tick(2), state(0), count(1), totals(), find(0),
        find(1), make(2, 1, 1), tick(FAR), machine(0, 1, 1)]
TOLD = [[0, 2], [0, 0], [0, 0], [0, 1], [0], [0, 6], [0], [0], [0, 0, 4], [0, 10, 32, 1, -1], [0, 10], [0, 3, 13],
        [-1], [-5], [-8], [0, 2], [0, 1], [0, 0], [0, 27, 12, 2, 0, 0, 2, 1, 0, 3, 0, 4], [0, 27], [0, 1, 3], [0, 0],
        [0], [0, 1], [0, 0, 1, 0, 1, 1, 2, 0], [0, 3], [0, 0, 1, 0, 1, 0, 0, 1], [0, 4], [0, 2, 1, 3, 1, 27, 3], [0],
        [0, 1], [0, 13], [-1], [-3]]


class Interface(Case):
    def test_each_answer_stands_behind_its_length(self):
        self.assertEqual(answers([0, 3, 1, 1, 4, 10, 7, 0, 2, -1, 5, 5, 5, 7, 0]),
                         [2, 0, 1, 2, 0, 4, 1, -3, 2, 0, 0, 1, 0])

    def test_a_line_with_each_call(self):
        self.assertEqual(run(LINE), TOLD)

    def test_what_is_handed_in_stays_as_it_was(self):
        handed = flat(LINE)
        answers(handed)
        self.assertEqual(handed, flat(LINE))

    def test_a_second_time_is_like_the_first(self):
        handed = flat(LINE)
        first = answers(handed)
        self.assertEqual(answers(handed), first)
        self.assertIsNot(answers(handed), first)
        self.assertEqual(run([costs()]), [[-2]])
        self.assertEqual(apart(first), TOLD)

    def test_an_answer_that_is_changed_changes_no_later_one(self):
        handed = flat(LINE)
        first = answers(handed)
        first.clear()
        self.assertEqual(apart(answers(handed)), TOLD)

    def test_whole_numbers_in_a_list(self):
        told = answers(flat(LINE))
        self.assertIs(type(told), list)
        self.assertEqual({type(number) for number in told}, {int})

    def test_any_call_may_come_first(self):
        for call in (recipe(0, 1, 1), bag(GROUND, 0, 0, 0), put(0, 0, 1), take(0, 0, 1), move(0, 0, 0, 1), carry(0, 0),
                     stacks(0), load(0), fits(0, 0), costs(), fair(), plan(0, 0, 1), make(0, 0, 1), machine(0, 0, 0),
                     order(0, 1), tick(1), state(0), count(0), find(0)):
            self.answered([call], [-2])
        self.answered([goods(1, 1, 1)], [0, 1])
        self.answered([totals()], [0, 0, 0, 0, 0, 0, 0])

    def test_a_refused_row_is_passed_over_whole(self):
        for length in range(41):
            row = [FAR] * length
            line = [goods(*row), recipe(0, 1, 1, *row), fair(*row), goods(1, 1, 1), fair(*row), totals()]
            self.assertEqual(run(line),
                             [[-1], [-1 if length > 0 else -2], [-2 if length <= 10 else -1], [0, 1],
                              [-1] if length > 10 else [0, 0], [0, 1, 0, 0, 0, 0, 0]])

    def test_200_calls(self):
        line = [goods(1, 100, 1), bag(GROUND, 1000000, 0, 40)] + [put(0, 0, 1)] * 197 + [stacks(0)]
        self.answered(line, [0, 0, 100, 0, 97])

    def test_200_calls_that_make(self):
        line = [goods(1, 100, 1, 1, 100, 0), recipe(1, 2, 1, 0, 1), bag(GROUND, 1000000, 0, 40), machine(0, 0, 0)]
        line += [put(0, 0, 100), order(0, 1000)] + [tick(1), make(0, 1, 1)] * 96 + [count(0), totals()]
        # The machine begins in every other tick; the first thing made comes by hand, and then there is one always.
        self.assertEqual(len(line), 200)
        self.answered_all(line, [[0, 51], [0, 2, 1, 1, 1, 2, 96]])

    def test_the_longest_list(self):
        line = [goods(*[1] * 30)] + [recipe(0, 1, 1, *[0] * 40), fair(*[FAR] * 40), goods(*[-FAR] * 40)] * 66
        line.append(totals())
        self.assertEqual(len(line), 200)
        self.answered_all(line, [[-1]] * 198 + [[0, 10, 0, 0, 0, 0, 0]])
