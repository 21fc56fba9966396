"""expected: refusals and the expected cost of an order."""

import itertools
import unittest

from helper import EXAMPLE, ask, ask_of, expected, orders_of, plan_text, some_plans, told_cost

THREE = "test a cost 1 chance 1; test b cost 1 chance 1; test c cost 1 chance 1;"


class Refusals(unittest.TestCase):

    def refused(self, text, *order):
        self.assertEqual(ask_of(text, expected(*order)), [[-12]], order)

    def test_a_test_is_missing(self):
        for order in ((), (0,), (0, 1), (2, 1), (1, 2)):
            self.refused(THREE, *order)

    def test_a_test_is_there_twice(self):
        for order in ((0, 0, 1), (0, 1, 1), (2, 2, 2), (0, 1, 2, 0), (0, 1, 2, 2)):
            self.refused(THREE, *order)

    def test_what_is_no_test(self):
        for number in (-1, -2, -3, 3, 4, -10 ** 18, 10 ** 18):
            self.refused(THREE, 0, 1, number)
            self.refused(THREE, number, 1, 2)
            self.refused(THREE, 0, 1, 2, number)
            self.refused("", number)
        self.refused(THREE, -3, -2, -1)
        self.refused(THREE, 1, 2, 3)

    def test_long_lists(self):
        self.refused(THREE, *([0] * 5000))
        self.refused(THREE, *range(5000))
        self.refused("", *range(5000))

    def test_a_test_ahead_of_one_behind_which_it_must_run(self):
        self.refused(EXAMPLE, 2, 0, 1)
        self.refused(EXAMPLE, 1, 2, 0)
        text = THREE + "test d cost 1 chance 1 after c, a;"
        self.refused(text, 0, 3, 2, 1)
        self.refused(text, 2, 3, 0, 1)
        self.refused(text, 3, 0, 1, 2)
        self.assertEqual(ask_of(text, expected(2, 0, 3, 1))[0][0], 0)
        self.assertEqual(ask_of(text, expected(0, 2, 3, 1))[0][0], 0)

    def test_all_that_are_an_order_and_no_others(self):
        for setups, tests in some_plans(40, 4, 1):
            good = orders_of(tests)
            asked = list(itertools.permutations(range(len(tests))))
            found = ask_of(plan_text(setups, tests), *[expected(*order) for order in asked])
            for order, answer in zip(asked, found):
                self.assertEqual(answer[0], 0 if order in good else -12)


class Costs(unittest.TestCase):

    def costs(self, text, order, cost):
        self.assertEqual(ask_of(text, expected(*order)), [[0, cost]], order)

    def test_the_example(self):
        self.costs(EXAMPLE, (0, 1, 2), 15300000)
        self.costs(EXAMPLE, (1, 0, 2), 17800000)

    def test_no_tests(self):
        self.assertEqual(ask(expected()), [[0, 0]])
        self.costs("group g 5;", (), 0)

    def test_one_test(self):
        self.costs("test t cost 7 chance 0;", (0,), 700)
        self.costs("test t cost 7 chance 100;", (0,), 700)
        self.costs("group g 5; test t cost 7 chance 30 in g;", (0,), 1200)
        self.costs("group g 0; test t cost 7 chance 30 in g;", (0,), 700)

    def test_chances_of_0_and_of_100(self):
        text = "test a cost 3 chance 0; test b cost 5 chance 100; test c cost 7 chance 50;"
        self.costs(text, (0, 1, 2), 8 * 10 ** 6)
        self.costs(text, (1, 0, 2), 5 * 10 ** 6)
        self.costs(text, (2, 0, 1), 11 * 10 ** 6)
        self.costs(text, (0, 2, 1), 12500000)

    def test_setups(self):
        text = ("group g 10; group h 20; test a cost 1 chance 0 in g; test b cost 1 chance 0 in g;"
                "test c cost 1 chance 0 in h; test d cost 1 chance 0;")
        for order, cost in (((0, 1, 2, 3), 34), ((0, 2, 1, 3), 44), ((2, 0, 1, 3), 34), ((3, 0, 1, 2), 34)):
            self.costs(text, order, cost * 10 ** 8)

    def test_a_test_without_a_group_leaves_what_is_set_up(self):
        text = "group g 10; test a cost 1 chance 0 in g; test b cost 1 chance 0; test c cost 1 chance 0 in g;"
        self.costs(text, (0, 1, 2), 13 * 10 ** 6)
        self.costs(text, (1, 0, 2), 13 * 10 ** 6)

    def test_setups_that_are_paid_by_a_chance(self):
        text = "group g 10; test a cost 2 chance 25; test b cost 3 chance 5 in g; test c cost 4 chance 5 in g;"
        self.costs(text, (0, 1, 2), 2 * 10 ** 6 + 75 * (13 * 10 ** 4 + 95 * 400))

    def test_the_greatest_costs(self):
        tests = [(1000, 0, number % 2, []) for number in range(7)]
        self.costs(plan_text([1000, 1000], tests), range(7), 14000 * 10 ** 14)

    def test_against_chances_of_being_run(self):
        for setups, tests in some_plans(60, 7, 2):
            orders = orders_of(tests)
            orders = orders[::len(orders) // 20 + 1]
            found = ask_of(plan_text(setups, tests), *[expected(*order) for order in orders])
            self.assertEqual(found, [[0, told_cost(setups, tests, order)] for order in orders])


if __name__ == "__main__":
    unittest.main()
