from helper import (FAR, GROUND, Case, bag, carry, count, goods, load, machine, make, move, order, priced, put, recipe,
                    run, stacks, state, take, tick, totals)

ORE, BAR, NAIL = range(3)
# A bar is made of two of ore in three ticks, a nail of a bar in one.
GOODS = [goods(1, 10, 1, 3, 2, 0, 1, 9, 0), recipe(BAR, 5, 3, ORE, 2), recipe(NAIL, 5, 1, BAR, 1)]
FORGE = GOODS + [bag(GROUND, 99, 0, 9), bag(GROUND, 99, 0, 9), put(0, ORE, 5), machine(0, 1, 0)]
STATE = [0, 0, 1, 0]


class Ticks(Case):
    def test_without_machines(self):
        self.answered_all([priced(1), tick(1), tick(100), tick(7), totals()],
                          [[0, 1], [0, 101], [0, 108], [0, 1, 0, 0, 0, 0, 108]])

    def test_idle_without_an_order(self):
        self.answered_all(FORGE + [tick(50), state(0), stacks(0), stacks(1)],
                          [[0, 50], STATE + [0, 0, 0, 0], [0, ORE, 5], [0]])

    def test_tick_by_tick(self):
        line = FORGE + [order(0, 3)]
        told = [
            (1, STATE + [2, 1, 3, 0], [0, ORE, 3], [0]),
            (2, STATE + [2, 1, 2, 0], [0, ORE, 3], [0]),
            (3, STATE + [2, 1, 1, 0], [0, ORE, 3], [0]),
            (4, STATE + [2, 0, 0, 1], [0, ORE, 3], [0, BAR, 1]),
            (5, STATE + [1, 1, 3, 1], [0, ORE, 1], [0, BAR, 1]),
            (8, STATE + [1, 0, 0, 2], [0, ORE, 1], [0, BAR, 2]),
            (9, STATE + [1, 0, 0, 2], [0, ORE, 1], [0, BAR, 2]),
            (100, STATE + [1, 0, 0, 2], [0, ORE, 1], [0, BAR, 2]),
        ]
        for many, asked, ore, bars in told:
            self.answered_all(line + [tick(many), state(0), stacks(0), stacks(1)], [[0, many], asked, ore, bars])

    def test_a_recipe_of_one_tick(self):
        line = GOODS + [bag(GROUND, 99, 0, 9), put(0, BAR, 4), machine(0, 0, 1), order(0, 2)]
        self.answered_all(line + [tick(1), state(0)] * 4 + [stacks(0)],
                          [[0, 1], [0, 0, 0, 1, 1, 1, 1, 0], [0, 2], [0, 0, 0, 1, 1, 0, 0, 1],
                           [0, 3], [0, 0, 0, 1, 0, 1, 1, 1], [0, 4], [0, 0, 0, 1, 0, 0, 0, 2],
                           [0, BAR, 2, NAIL, 2]])

    def test_a_recipe_of_50_ticks_without_needs(self):
        line = [priced(0), recipe(0, 1, 50), bag(GROUND, 99, 0, 9), machine(0, 0, 0), order(0, 1)]
        self.answered_all(line + [tick(50), state(0), stacks(0), tick(1), state(0), stacks(0)],
                          [[0, 50], [0, 0, 0, 0, 0, 1, 1, 0], [0], [0, 51], [0, 0, 0, 0, 0, 0, 0, 1], [0, 0, 1]])

    def test_what_is_made_is_not_paid(self):
        self.answered(FORGE + [order(0, 2), tick(10), totals()], [0, 3, 2, 2, 1, 0, 10])

    def test_what_it_works_on_is_in_no_bag(self):
        self.answered_all(FORGE + [order(0, 1), tick(1), count(ORE), count(BAR), load(0), load(1)],
                          [[0, 1], [0, 3], [0, 0], [0, 3, 96, 1, -1], [0, 0, 99, 0, -1]])

    def test_at_once_and_one_by_one(self):
        line = FORGE + [bag(1, 7, 0, 1), machine(1, 2, 1), machine(0, 0, 0), order(0, 2), order(1, 9), order(2, 1)]
        asked = [state(0), state(1), state(2), stacks(0), stacks(1), stacks(2), load(1), totals()]
        for many in (2, 3, 10, 31, 100):
            at_once = run(line + [tick(many)] + asked)[-8:]
            self.assertEqual(at_once, run(line + [tick(1)] * many + asked)[-8:])
            self.assertEqual(at_once, run(line + [tick(many // 2), tick(many - many // 2)] + asked)[-8:])


class Needs(Case):
    def line(self, *there):
        told = [priced(0, 0, 0, 0), recipe(3, 1, 1, 2, 2, 0, 1, 1, 1), bag(GROUND, 99, 0, 30), bag(0, 99, 0, 30)]
        told += [put(0, g, many) for g, many in enumerate(there) if many > 0]
        return told + [machine(0, 0, 0), order(0, 2)]

    def test_all_there(self):
        self.answered_all(self.line(1, 1, 2) + [tick(1), state(0), stacks(0)],
                          [[0, 1], [0, 0, 0, 0, 1, 1, 1, 0], [0]])
        self.answered_all(self.line(2, 1, 3) + [tick(1), stacks(0)], [[0, 1], [0, 0, 1, 2, 1]])

    def test_only_in_part(self):
        for there in ((0, 1, 2), (1, 0, 2), (1, 1, 1), (1, 1, 0), (9, 9, 1), (9, 0, 9), (0, 9, 9), (0, 0, 0)):
            line = self.line(*there)
            self.assertEqual(run(line + [tick(9), state(0), stacks(0)])[-2:],
                             [[0, 0, 0, 0, 2, 0, 0, 0], run(line + [stacks(0)])[-1]])

    def test_what_comes_later(self):
        self.answered_all(self.line(1, 1, 1) + [tick(5), put(0, 2, 1), tick(1), state(0), stacks(0)],
                          [[0, 5], [0], [0, 6], [0, 0, 0, 0, 1, 1, 1, 0], [0]])

    def test_what_lies_in_a_bag_in_it_is_not_there(self):
        line = self.line(1, 1, 1) + [put(1, 2, 5), tick(5), state(0)]
        self.answered(line, [0, 0, 0, 0, 2, 0, 0, 0])
        self.answered(line + [move(1, 0, 2, 1), tick(1), state(0)], [0, 0, 0, 0, 1, 1, 1, 0])

    def test_taken_from_the_last_stack(self):
        line = [goods(1, 3, 0, 1, 9, 0), recipe(1, 1, 1, 0, 4), bag(GROUND, 99, 0, 9), bag(GROUND, 99, 0, 9),
                put(0, 0, 5), put(0, 1, 1), put(0, 0, 3), machine(0, 1, 0), order(0, 1), tick(1), stacks(0)]
        self.answered(line, [0, 0, 3, 0, 1, 1, 1])


class Waiting(Case):
    def line(self, room, places):
        return GOODS + [bag(GROUND, 99, 0, 9), bag(GROUND, room, 0, places), put(0, ORE, 9), machine(0, 1, 0),
                        order(0, 3)]

    def test_no_room(self):
        line = self.line(5, 9) + [tick(7), state(0)] + [tick(1), state(0)] * 2 + [tick(50), state(0), stacks(0)]
        self.answered_all(line,
                          [[0, 7], STATE + [1, 1, 1, 1], [0, 8], STATE + [1, 1, 0, 1], [0, 9], STATE + [1, 1, 0, 1],
                           [0, 59], STATE + [1, 1, 0, 1], [0, ORE, 5]])

    def test_room_again(self):
        line = self.line(5, 9) + [tick(20), take(1, BAR, 1)]
        self.answered_all(line + [state(0), tick(1), state(0), stacks(1), tick(1), state(0)],
                          [STATE + [1, 1, 0, 1], [0, 21], STATE + [1, 0, 0, 2], [0, BAR, 1], [0, 22],
                           STATE + [0, 1, 3, 2]])

    def test_no_place(self):
        line = self.line(99, 1)
        self.answered_all(line + [tick(12), state(0), stacks(1), load(1)],
                          [[0, 12], STATE + [0, 1, 0, 2], [0, BAR, 2], [0, 6, 93, 1, -1]])

    def test_no_room_around(self):
        line = GOODS + [bag(GROUND, 99, 0, 9), bag(GROUND, 4, 0, 9), bag(1, 99, 1, 9), put(0, ORE, 9), machine(0, 2, 0),
                        order(0, 3)]
        self.answered_all(line + [tick(20), state(0), load(1), carry(2, GROUND), tick(1), state(0), load(1), load(2)],
                          [[0, 20], [0, 0, 2, 0, 1, 1, 0, 1], [0, 4, 0, 1, -1], [0], [0, 21],
                           [0, 0, 2, 0, 1, 0, 0, 2], [0, 0, 4, 0, -1], [0, 7, 93, 1, -1]])

    def test_just_room(self):
        for room, made in ((2, 0), (3, 1), (5, 1), (6, 2), (8, 2), (9, 3)):
            left = [3 - made - 1, 1, 0, made] if made < 3 else [0, 0, 0, 3]
            self.answered(self.line(room, 9) + [tick(30), state(0)], STATE + left)


class Several(Case):
    def test_they_act_by_their_numbers_on_what_they_share(self):
        line = FORGE + [machine(0, 1, 0), machine(0, 1, 0), order(2, 1), order(1, 1), order(0, 1), tick(1)]
        self.answered_all(line + [state(0), state(1), state(2), stacks(0)],
                          [STATE + [0, 1, 3, 0], STATE + [0, 1, 3, 0], STATE + [1, 0, 0, 0], [0, ORE, 1]])

    def test_they_put_by_their_numbers(self):
        line = GOODS + [bag(GROUND, 99, 0, 9), bag(GROUND, 3, 0, 9), put(0, ORE, 9), machine(0, 1, 0), machine(0, 1, 0),
                        order(1, 1), order(0, 1), tick(4)]
        self.answered_all(line + [state(0), state(1), stacks(1)],
                          [STATE + [0, 0, 0, 1], STATE + [0, 1, 0, 0], [0, BAR, 1]])

    def test_one_that_comes_later_sees_what_an_earlier_one_put(self):
        line = GOODS + [bag(GROUND, 99, 0, 9), put(0, ORE, 2)]
        early = line + [machine(0, 0, 0), machine(0, 0, 1), order(0, 1), order(1, 1), tick(4)]
        self.answered_all(early + [state(0), state(1), stacks(0)],
                          [[0, 0, 0, 0, 0, 0, 0, 1], [0, 0, 0, 1, 0, 1, 1, 0], [0]])
        late = line + [machine(0, 0, 1), machine(0, 0, 0), order(0, 1), order(1, 1), tick(4)]
        self.answered_all(late + [state(0), state(1), stacks(0)],
                          [[0, 0, 0, 1, 1, 0, 0, 0], [0, 0, 0, 0, 0, 0, 0, 1], [0, BAR, 1]])
        self.answered_all(late + [tick(1), state(0), stacks(0)], [[0, 5], [0, 0, 0, 1, 0, 1, 1, 0], [0]])

    def test_one_that_comes_later_has_the_room_that_an_earlier_one_made(self):
        line = GOODS + [bag(GROUND, 4, 0, 9), bag(GROUND, 99, 0, 9), put(0, BAR, 1), put(1, ORE, 2)]
        early = line + [machine(0, 1, 1), machine(1, 0, 0), order(1, 1), tick(3), order(0, 1), tick(1)]
        self.answered_all(early + [state(0), state(1), stacks(0)],
                          [[0, 0, 1, 1, 0, 1, 1, 0], [0, 1, 0, 0, 0, 0, 0, 1], [0, BAR, 1]])
        late = line + [machine(1, 0, 0), machine(0, 1, 1), order(0, 1), tick(3), order(1, 1), tick(1)]
        self.answered_all(late + [state(0), state(1), stacks(0)],
                          [[0, 1, 0, 0, 0, 1, 0, 0], [0, 0, 1, 1, 0, 1, 1, 0], [0]])

    def test_takes_from_and_puts_into_one_bag(self):
        line = [goods(4, 1, 0, 5, 1, 0), recipe(1, 1, 1, 0, 1), bag(GROUND, 9, 0, 2), put(0, 0, 2), machine(0, 0, 0),
                order(0, 2)]
        self.answered_all(line + [tick(2), stacks(0), tick(1), stacks(0), tick(1), stacks(0), state(0)],
                          [[0, 2], [0, 0, 1, 1, 1], [0, 3], [0, 1, 1], [0, 4], [0, 1, 1], [0, 0, 0, 0, 0, 1, 0, 1]])

    def test_what_it_makes_is_what_it_needs(self):
        line = [priced(0), recipe(0, 1, 2, 0, 2), bag(GROUND, 99, 0, 9), put(0, 0, 4), machine(0, 0, 0), order(0, 9)]
        self.answered_all(line + [tick(100), state(0), stacks(0)], [[0, 100], [0, 0, 0, 0, 6, 0, 0, 3], [0, 0, 1]])

    def test_a_chain_of_six(self):
        line = [goods(*[1, 9, 0] * 7)] + [recipe(k + 1, 1, 1, k, 1) for k in range(6)]
        line += [bag(GROUND, 99, 0, 9)] * 7 + [put(0, 0, 5)] + [machine(k, k + 1, k) for k in range(6)]
        line += [order(k, 5) for k in range(6)]
        # Each of the six hands on in the tick in which it brings out: so the first comes after 7 ticks.
        self.answered_all(line + [tick(6), stacks(6), tick(1), stacks(6), tick(8), stacks(6), state(5)],
                          [[0, 6], [0], [0, 7], [0, 6, 1], [0, 15], [0, 6, 5], [0, 5, 6, 5, 0, 0, 0, 5]])

    def test_bags_that_are_carried_and_made_in_meanwhile(self):
        line = FORGE + [order(0, 2), tick(2), carry(0, 1), make(0, BAR, 1), tick(2), stacks(0), stacks(1), load(1)]
        self.answered_all(line, [[0], [0, 5], [0, 4], [0, ORE, 1, BAR, 1], [0, BAR, 1], [0, 7, 92, 2, -1]])


class Limits(Case):
    def test_10000_and_one_more(self):
        line = [priced(0), recipe(0, 1, 1), bag(GROUND, 9, 0, 9), machine(0, 0, 0), order(0, 4)]
        full = line + [tick(100)] * 99
        self.answered_all(full + [tick(99), tick(2), tick(1), tick(1), totals()],
                          [[0, 9999], [-10], [0, 10000], [-10], [0, 1, 1, 1, 1, 0, 10000]])
        self.answered_all(full + [tick(100), tick(100)], [[0, 10000], [-10]])
        self.answered_all(full + [tick(1), tick(100), tick(99)], [[0, 9901], [-10], [0, 10000]])

    def test_refused_ticks_change_nothing(self):
        line = FORGE + [put(0, ORE, 9)] + [tick(100)] * 99 + [tick(98), order(0, 5), tick(1)]
        asked = [state(0), stacks(0), stacks(1), load(0), load(1), count(ORE), totals()]
        before = run(line + asked)[-7:]
        self.assertEqual(before[0], STATE + [4, 1, 3, 0])
        for many in (2, 100):
            told = run(line + [tick(many)] + asked + [tick(1), state(0)])[-10:]
            self.assertEqual(told, [[-10]] + before + [[0, 10000], STATE + [4, 1, 2, 0]])

    def test_other_calls_go_on_behind_the_last_tick(self):
        line = FORGE + [tick(100)] * 100
        self.answered_all(line + [put(0, ORE, 1), order(0, 1), make(1, ORE, 2), stacks(0)],
                          [[0], [0], [0, 2], [0, ORE, 6]])

    def test_both_ends(self):
        self.answered([priced(1), tick(1)], [0, 1])
        self.answered([priced(1), tick(100)], [0, 100])

    def test_just_outside(self):
        for many in (0, -1, 101, FAR, -FAR):
            self.refused(FORGE + [order(0, 2)], tick(many), -1)

    def test_refused_ticks_are_not_counted(self):
        self.answered_all([priced(1), tick(0), tick(101), tick(3)], [[-1], [-1], [0, 3]])
