"""rule: the order by the rule and its expected cost."""

import unittest

from helper import EXAMPLE, RULE, ask, ask_of, plan_text, some_plans, told_cost


def comes_before(test, other):
    """By the words, of (cost, chance, group, after)."""
    if test[1] != 0 and other[1] == 0:
        return True
    return test[0] * other[1] < other[0] * test[1]


def order_by_rule(tests):
    """By the words: the first that may run next such that no other of these comes before it."""
    order = []
    while len(order) < len(tests):
        these = [number for number in range(len(tests))
                 if number not in order and all(earlier in order for earlier in tests[number][3])]
        order.append([number for number in these
                      if not any(comes_before(tests[other], tests[number]) for other in these)][0])
    return order


class Rule(unittest.TestCase):

    def rule(self, setups, tests, *order):
        cost = told_cost(setups, tests, order)
        self.assertEqual(ask_of(plan_text(setups, tests), RULE), [[0, cost] + list(order)])

    def test_the_example(self):
        self.assertEqual(ask_of(EXAMPLE, RULE), [[0, 15300000, 0, 1, 2]])

    def test_no_tests(self):
        self.assertEqual(ask(RULE), [[0, 0]])
        self.assertEqual(ask_of("group g 5;", RULE), [[0, 0]])

    def test_one_test(self):
        self.assertEqual(ask_of("group g 5; test t cost 7 chance 0 in g;", RULE), [[0, 1200, 0]])

    def test_costs_by_chances(self):
        self.rule([], [(10, 50, None, []), (1, 4, None, []), (3, 20, None, [])], 2, 0, 1)
        self.rule([], [(2, 10, None, []), (1, 6, None, [])], 1, 0)
        self.rule([], [(6, 50, None, []), (5, 50, None, [])], 1, 0)
        self.rule([], [(5, 50, None, []), (5, 51, None, [])], 1, 0)

    def test_chances_of_0(self):
        self.rule([], [(1, 0, None, []), (1000, 1, None, [])], 1, 0)
        self.rule([], [(9, 0, None, []), (1, 0, None, []), (5, 0, None, [])], 0, 1, 2)
        self.rule([], [(9, 0, None, []), (1000, 1, None, []), (1, 0, None, []), (1, 100, None, [])], 3, 1, 0, 2)

    def test_alike_ones(self):
        self.rule([], [(4, 20, None, []), (2, 10, None, []), (6, 30, None, []), (1, 5, None, [])], 0, 1, 2, 3)
        self.rule([], [(9, 1, None, []), (4, 20, None, []), (2, 10, None, [])], 1, 2, 0)
        self.rule([], [(4, 20, None, []), (2, 10, None, []), (1, 100, None, [])], 2, 0, 1)

    def test_after(self):
        self.rule([], [(100, 1, None, []), (1, 100, None, [0]), (50, 10, None, [])], 2, 0, 1)
        self.rule([], [(5, 50, None, []), (1, 50, None, [0]), (2, 50, None, [])], 2, 0, 1)
        self.rule([], [(1, 0, None, []), (1, 100, None, [0]), (9, 1, None, [])], 2, 0, 1)

    def test_groups_are_left_aside_in_the_order_but_not_in_the_cost(self):
        tests = [(2, 50, 0, []), (3, 50, 1, []), (4, 50, 0, [])]
        self.rule([100, 200], tests, 0, 1, 2)
        self.assertEqual(ask_of(plan_text([100, 200], tests), RULE),
                         [[0, 102 * 10 ** 6 + 50 * (203 * 10 ** 4 + 50 * 10400), 0, 1, 2]])
        self.rule([1000], [(3, 50, 0, []), (4, 50, None, [])], 0, 1)

    def test_seven_tests(self):
        self.rule([3, 5, 7], [(7 - number, 50, number % 3, []) for number in range(7)], 6, 5, 4, 3, 2, 1, 0)

    def test_against_the_words(self):
        for setups, tests in some_plans(300, 7, 6):
            self.rule(setups, tests, *order_by_rule(tests))


if __name__ == "__main__":
    unittest.main()
