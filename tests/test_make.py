import random

from helper import (GROUND, OUTSIDE_PLANS, Case, bag, carry, costs, count, drawn_world, goods, load, make, plan, priced,
                    put, recipe, run, stacks, take, totals)

WOOD, STONE, AXE, CART = range(4)
# Costs: wood 2, stone 3, an axe 4 + 2 * 3 + 2 = 12, a cart 5 + 12 + 3 * 2 = 23.
# Weights: wood 1, stone 2, an axe 4, a cart 10. Two stones make a stack, ten of the others.
YARD = [goods(1, 10, 2, 2, 2, 3, 4, 10, 0, 10, 10, 0), recipe(AXE, 4, 1, STONE, 2, WOOD, 1),
        recipe(CART, 5, 1, AXE, 1, WOOD, 3)]
WIDE = YARD + [bag(GROUND, 1000, 0, 40)]
TEN = [priced(*[1] * 10), bag(GROUND, 99, 0, 9)]


def paid(many, goods_told=4, recipes=2, bags=1):
    return [0, goods_told, recipes, bags, 0, many, 0]


class Make(Case):
    def test_bought(self):
        self.answered_all(WIDE + [make(0, STONE, 5), stacks(0), totals()],
                          [[0, 15], [0, STONE, 2, STONE, 2, STONE, 1], paid(15)])

    def test_made_in_several_steps(self):
        self.answered_all(WIDE + [make(0, CART, 2), stacks(0), load(0), totals()],
                          [[0, 46], [0, CART, 2], [0, 20, 980, 1, -1], paid(46)])

    def test_stock_is_used(self):
        line = WIDE + [put(0, WOOD, 3), put(0, AXE, 1), make(0, CART, 2), stacks(0), totals()]
        self.answered_all(line, [[0, 28], [0, CART, 2], paid(28)])
        line = WIDE + [put(0, WOOD, 9), make(0, CART, 2), stacks(0), totals()]
        self.answered_all(line, [[0, 30], [0, WOOD, 1, CART, 2], paid(30)])

    def test_where_the_stacks_come_to_stand(self):
        line = WIDE + [put(0, STONE, 3), put(0, WOOD, 12), put(0, AXE, 1), put(0, CART, 1)]
        # One axe is there: of the three stones two go, the last first, and one wood of the second stack.
        self.answered_all(line + [make(0, AXE, 2), stacks(0)],
                          [[0, 4], [0, STONE, 1, WOOD, 10, WOOD, 1, AXE, 2, CART, 1]])
        # Two carts are lacking: an axe lies there, the other is made of two stones; seven of wood go.
        self.answered_all(line + [make(0, CART, 3), stacks(0)], [[0, 14], [0, STONE, 1, WOOD, 5, CART, 3]])

    def test_bought_ones_fill_stacks_up(self):
        line = WIDE + [put(0, STONE, 1), put(0, WOOD, 4), make(0, STONE, 4), stacks(0)]
        self.answered_all(line, [[0, 9], [0, STONE, 2, WOOD, 4, STONE, 2]])

    def test_what_is_there_already(self):
        self.unchanged(WIDE + [put(0, CART, 2)], make(0, CART, 2), [0, 0])
        self.unchanged(WIDE + [put(0, CART, 3)], make(0, CART, 2), [0, 0])
        self.answered_all(WIDE + [make(0, CART, 2), make(0, CART, 2), totals()], [[0, 46], [0, 0], paid(46)])

    def test_what_is_paid_adds_up(self):
        line = WIDE + [make(0, AXE, 1), totals(), make(0, CART, 1), totals(), make(0, STONE, 1), totals()]
        self.answered_all(line, [[0, 12], paid(12), [0, 11], paid(23), [0, 3], paid(26)])

    def test_what_is_put_and_taken_is_not_paid(self):
        self.answered(WIDE + [put(0, STONE, 5), take(0, STONE, 2), totals()], paid(0))

    def test_the_price_that_is_the_cost_and_the_first_recipe_at_it(self):
        line = [priced(2, 8, 0), recipe(1, 4, 1, 0, 2), recipe(2, 9, 1), recipe(2, 3, 1, 0, 2), recipe(2, 7, 1),
                bag(GROUND, 3, 0, 9), put(0, 0, 2)]
        self.answered_all(line + [make(0, 1, 1), stacks(0)], [[0, 8], [0, 0, 1, 0, 1, 1, 1]])
        self.answered_all(line + [make(0, 2, 1), stacks(0)], [[0, 3], [0, 2, 1]])

    def test_other_bags_stay_as_they_are(self):
        line = YARD + [bag(GROUND, 1000, 0, 40), bag(0, 99, 0, 9), bag(0, 99, 0, 9), put(0, WOOD, 1), put(1, AXE, 1)]
        self.answered_all(line + [make(2, AXE, 1), stacks(0), stacks(1), stacks(2), load(0)],
                          [[0, 12], [0, WOOD, 1], [0, AXE, 1], [0, AXE, 1], [0, 9, 991, 3, -1]])

    def test_both_ends_of_how_many(self):
        self.answered_all(WIDE + [make(0, WOOD, 1), stacks(0)], [[0, 2], [0, WOOD, 1]])
        self.answered_all(WIDE + [make(0, WOOD, 100), count(WOOD)], [[0, 200], [0, 100]])

    def test_the_last_bag_and_the_last_good(self):
        line = [priced(*[1] * 10)] + [bag(GROUND, 99, 0, 9)] * 12
        self.answered_all(line + [make(11, 9, 2), stacks(11)], [[0, 2], [0, 9, 1, 9, 1]])
        self.answered_all(line + [make(0, 0, 2), stacks(0)], [[0, 2], [0, 0, 1, 0, 1]])

    def test_just_outside(self):
        for asked in OUTSIDE_PLANS:
            self.refused(TEN, make(*asked), -1)

    def test_no_such_bag_or_good(self):
        for asked in ((1, 0, 1), (11, 0, 1), (0, 4, 1), (0, 9, 1)):
            self.refused(WIDE, make(*asked), -3)

    def test_no_cost(self):
        line = [priced(0, 5, 0), recipe(0, 1, 1, 1, 1, 2, 1), bag(GROUND, 99, 0, 9)]
        self.refused(line, make(0, 0, 1), -9)
        self.refused(line, make(0, 2, 1), -9)
        self.refused(line + [put(0, 0, 5), put(0, 1, 2)], make(0, 0, 1), -9)

    def test_no_cost_where_nothing_has_room(self):
        self.refused([priced(0, 5), bag(GROUND, 0, 0, 0)], make(0, 0, 1), -9)
        self.refused([priced(0, 5), bag(GROUND, 1, 0, 1), put(0, 0, 1)], make(0, 0, 1), -9)
        self.refused([priced(0, 5), bag(GROUND, 1, 0, 1), put(0, 0, 1)], make(0, 0, 100), -9)


class NoRoom(Case):
    def just_enough(self, room, places, calls, asked, cost):
        """It comes out with this room and so many places, and with one less of either nothing is done."""
        def before(room, places):
            return YARD + [bag(GROUND, room, 0, places), bag(GROUND, 99, 3, 9), put(1, WOOD, 4)] + calls
        self.answered(before(room, places) + [make(*asked)], [0, cost])
        for less in ((room - 1, places), (room, places - 1)):
            self.refused(before(*less), make(*asked), -6)

    def test_what_is_bought(self):
        self.just_enough(10, 3, [], (0, STONE, 5), 15)
        self.just_enough(12, 4, [put(0, WOOD, 2)], (0, STONE, 5), 15)
        self.just_enough(12, 4, [put(0, WOOD, 2), put(0, STONE, 2)], (0, STONE, 5), 9)

    def test_what_is_bought_between(self):
        # For an axe, which weighs 4, two stones and a wood lie there first: 5 in two places.
        self.just_enough(5, 2, [], (0, AXE, 1), 12)
        # For two carts, which weigh 20, there are two axes and six of wood: 14 in two places,
        # and before them four stones and two of wood: 10 in three places.
        self.just_enough(20, 3, [], (0, CART, 2), 46)

    def test_what_is_made_between(self):
        # The only good that can be bought is light; of one comes something heavy, of that something light.
        line = [goods(1, 1, 1, 50, 1, 0, 2, 1, 0), recipe(1, 1, 1, 0, 1), recipe(2, 1, 1, 1, 1)]
        self.answered_all(line + [bag(GROUND, 50, 0, 1), make(0, 2, 1), stacks(0)], [[0, 3], [0, 2, 1]])
        self.refused(line + [bag(GROUND, 49, 0, 1)], make(0, 2, 1), -6)
        line += [bag(GROUND, 51, 0, 1), put(0, 0, 1), bag(GROUND, 9, 0, 9), put(1, 0, 2)]
        self.refused(line, make(0, 1, 2), -6)

    def test_the_last_that_is_made(self):
        # A cart weighs 10, and what goes into it 7.
        self.just_enough(10, 2, [put(0, WOOD, 3), put(0, AXE, 1)], (0, CART, 1), 5)

    def test_what_is_needed_makes_room_before_what_is_made_is_put(self):
        line = [goods(5, 1, 1, 5, 1, 0), recipe(1, 1, 1, 0, 1), bag(GROUND, 5, 0, 1)]
        self.answered_all(line + [make(0, 1, 1), stacks(0)], [[0, 2], [0, 1, 1]])

    def test_all_of_one_step_lie_there_at_once(self):
        line = [goods(1, 1, 1, 1, 9, 0), recipe(1, 1, 1, 0, 2)]
        self.answered_all(line + [bag(GROUND, 99, 0, 6), make(0, 1, 3), stacks(0)], [[0, 9], [0, 1, 3]])
        self.refused(line + [bag(GROUND, 99, 0, 5)], make(0, 1, 3), -6)
        self.answered(line + [bag(GROUND, 99, 0, 5), make(0, 1, 2)], [0, 6])

    def test_places_that_bags_take(self):
        line = YARD + [bag(GROUND, 99, 0, 3), bag(0, 0, 0, 0)]
        self.answered(line + [make(0, AXE, 1)], [0, 12])
        self.refused(line + [bag(0, 0, 0, 0)], make(0, AXE, 1), -6)

    def test_the_bags_around(self):
        for room, fine in ((12, True), (11, False)):
            line = YARD + [bag(GROUND, room, 0, 9), bag(0, 99, 1, 9), bag(1, 99, 1, 9), put(1, WOOD, 5)]
            if fine:
                self.answered_all(line + [make(2, AXE, 1), load(0), load(1), load(2)],
                                  [[0, 12], [0, 11, 1, 1, -1], [0, 11, 89, 2, 0], [0, 5, 95, 1, 1]])
            else:
                self.refused(line, make(2, AXE, 1), -6)

    def test_nothing_at_all_has_changed_behind_many_steps(self):
        line = YARD + [bag(GROUND, 60, 0, 9), bag(0, 47, 1, 9), bag(1, 46, 1, 4), put(2, STONE, 3), put(2, WOOD, 12),
                       put(1, CART, 1), bag(GROUND, 99, 0, 9), put(3, WOOD, 7)]
        self.answered(line + [make(2, CART, 1)], [0, 9])
        self.refused(line, make(2, CART, 4), -6)
        # The stacks stand as before, though those in the middle had been gone.
        self.answered_all(line + [make(2, CART, 4), stacks(2), load(0), load(1), load(2), totals()],
                          [[-6], [0, STONE, 2, STONE, 1, WOOD, 10, WOOD, 2], [0, 30, 30, 1, -1], [0, 30, 18, 2, 0],
                           [0, 19, 28, 4, 1], paid(0, bags=4)])

    def test_far_too_many(self):
        line = [priced(1000, *[0] * 9)] + [recipe(k, 1000, 1, k - 1, 9) for k in range(1, 10)]
        self.refused(line + [bag(GROUND, 1000000, 0, 40)], make(0, 9, 100), -6)

    def test_behind_a_refused_one_all_goes_on(self):
        line = YARD + [bag(GROUND, 9, 0, 9), bag(GROUND, 99, 0, 9), make(0, CART, 1), carry(0, 1), make(0, AXE, 1),
                       stacks(0), load(1), totals()]
        self.answered_all(line, [[-6], [0], [0, 12], [0, AXE, 1], [0, 4, 95, 1, -1], paid(12, bags=2)])


class ComesOut(Case):
    """Where there is room a plan that is carried out comes out, at the plan's cost (promise 4)."""

    def test_by_chance(self):
        seen = 0
        for seed in range(400):
            draw = random.Random(seed)
            line = drawn_world(draw)
            told = run(line + [costs()])[-1][1:]
            stock = [draw.choice([0, draw.randint(1, 9)]) for g in told]
            line += [put(0, g, many) for g, many in enumerate(stock) if many > 0]
            for g in range(len(told)):
                n = draw.randint(1, 8)
                asked = [plan(0, g, n), make(0, g, n), totals()] + [count(k) for k in range(len(told))]
                planned, made, all_told, *after = run(line + asked)[-len(asked):]
                if made[0] == 0:
                    self.assertEqual(made, planned[:2])
                    self.assertEqual(all_told[5], made[1])
                    used = planned[4 + 3 * planned[3]:]
                    left = list(stock)
                    for good, many in zip(used[::2], used[1::2]):
                        left[good] -= many
                    left[g] += n
                    self.assertEqual([answer[1] for answer in after], left, (seed, g, n))
                    seen += 1
        self.assertGreater(seen, 500)
