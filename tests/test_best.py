"""best: the least expected cost and the order that is told of it."""

import unittest

from helper import BEST, EXAMPLE, ask, ask_of, expected, orders_of, plan_text, some_plans, stands_behind, told_cost


def cost_left(setups, tests, left, ready):
    """By the words: the expected cost of the tests that are left, gone on in the best way, and this way."""
    if not left:
        return 0, []
    found = None
    for number in left:
        cost, chance, group, after = tests[number]
        if any(earlier in left for earlier in after):
            continue
        if group is not None and group != ready:
            cost += setups[group]
        others = [other for other in left if other != number]
        rest, way = cost_left(setups, tests, others, ready if group is None else group)
        told = cost * 100 ** len(left) + (100 - chance) * rest
        if found is None or told < found[0]:
            found = told, [number] + way
    return found


class Best(unittest.TestCase):

    def best(self, text, cost, *order):
        self.assertEqual(ask_of(text, BEST), [[0, cost] + list(order)])

    def test_the_example(self):
        self.best(EXAMPLE, 15300000, 0, 1, 2)

    def test_no_tests(self):
        self.assertEqual(ask(BEST), [[0, 0]])
        self.best("group g 5; group h 6;", 0)

    def test_one_test(self):
        self.best("group g 5; test t cost 7 chance 0 in g;", 1200, 0)

    def test_the_cheaper_and_the_likelier_first(self):
        self.best("test a cost 9 chance 50; test b cost 3 chance 50;", 75000, 1, 0)
        self.best("test a cost 9 chance 10; test b cost 9 chance 90;", 99000, 1, 0)

    def test_alike_ones(self):
        self.best("test a cost 5 chance 50; test b cost 5 chance 50; test c cost 5 chance 50;", 8750000, 0, 1, 2)
        self.best("test a cost 4 chance 20; test b cost 2 chance 10; test c cost 1 chance 5;",
                  4000000 + 80 * (20000 + 90 * 100), 0, 1, 2)
        self.best("test a cost 9 chance 0; test b cost 2 chance 0; test c cost 5 chance 0;", 16000000, 0, 1, 2)

    def test_what_stands_behind_a_chance_of_100_is_gone_on_with_in_the_best_way(self):
        self.best("test a cost 9 chance 10; test b cost 1 chance 100; test c cost 2 chance 10;", 1000000, 1, 2, 0)

    def test_all_with_a_chance_of_100(self):
        self.best("test a cost 3 chance 100; test b cost 2 chance 100; test c cost 2 chance 100;", 2000000, 1, 2, 0)

    def test_groups_are_kept_together(self):
        self.best("group g 100; group h 100; test a cost 1 chance 10 in g; test b cost 1 chance 10 in h;"
                  "test c cost 1 chance 10 in g; test d cost 1 chance 10 in h;",
                  101 * 10 ** 8 + 90 * (10 ** 6 + 90 * (101 * 10 ** 4 + 90 * 100)), 0, 2, 1, 3)

    def test_a_group_stays_set_up_past_a_test_without_one(self):
        self.best("group g 10; test a cost 10 chance 50 in g; test b cost 1 chance 10;"
                  "test c cost 100 chance 1 in g after b;",
                  10 ** 6 + 90 * (20 * 10 ** 4 + 50 * 100 * 100), 1, 0, 2)
        self.best("group g 10; test a cost 1 chance 50 in g; test b cost 1 chance 1;"
                  "test c cost 100 chance 1 in g after b;",
                  11 * 10 ** 6 + 50 * (10 ** 4 + 99 * 100 * 100), 0, 1, 2)

    def test_it_looks_further_than_the_next_test(self):
        self.best("test a cost 100 chance 1; test b cost 1 chance 99 after a; test c cost 20 chance 10;",
                  10 ** 8 + 99 * (10 ** 4 + 20 * 100), 0, 1, 2)

    def test_after(self):
        self.best("test a cost 9 chance 0; test b cost 1 chance 100 after a; test c cost 1 chance 50 after b;",
                  10 * 10 ** 6, 0, 1, 2)

    def test_seven_tests(self):
        tests = [(cost, 50, None, []) for cost in (7, 6, 5, 4, 3, 2, 1)]
        cost = 0
        for at, own in enumerate((7, 6, 5, 4, 3, 2, 1), start=1):
            cost = own * 100 ** at + 50 * cost
        self.best(plan_text([], tests), cost, 6, 5, 4, 3, 2, 1, 0)
        tests = [(1000, 0, number % 3, []) for number in range(7)]
        self.best(plan_text([1000] * 3, tests), 10 ** 18, 0, 3, 6, 1, 4, 2, 5)

    def test_seven_tests_one_behind_the_other(self):
        tests = [(7 - number, 10 * number, number % 2, [number - 1] if number else []) for number in range(7)]
        self.best(plan_text([1, 2], tests), told_cost([1, 2], tests, range(7)), *range(7))

    def test_against_the_words(self):
        for setups, tests in some_plans(150, 5, 3) + some_plans(12, 7, 4):
            cost, order = cost_left(setups, tests, list(range(len(tests))), None)
            self.best(plan_text(setups, tests), cost, *order)

    def test_none_is_less(self):
        for setups, tests in some_plans(100, 5, 5):
            answer, = ask_of(plan_text(setups, tests), BEST)
            costs = [told_cost(setups, tests, order) for order in orders_of(tests)]
            self.assertEqual(answer[1], min(costs))
            self.assertTrue(stands_behind(tests, answer[2:]))
            self.assertEqual(told_cost(setups, tests, answer[2:]), answer[1])

    def test_expected_of_the_best_order_is_its_cost(self):
        answer, = ask_of(EXAMPLE, BEST)
        self.assertEqual(ask_of(EXAMPLE, expected(*answer[2:])), [answer[:2]])


if __name__ == "__main__":
    unittest.main()
