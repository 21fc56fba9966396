"""budget, choice and size: refusals, how choices miss and what they cost, the best one within a budget."""

import itertools
import unittest
from fractions import Fraction

from helper import EXAMPLE, SIZE, ask, ask_kept, ask_of, budget, choice, cost_together, plan_text, some_plans

GROUPS = "group g 5; group h 6;"
FULL = plan_text([1000] * 3, [(1000, 50, number % 3, []) for number in range(7)])


def miss_of(tests, chosen):
    """By the words: the chance that none of some tests finds a fault, times 100 for each test of the plan."""
    miss = Fraction(100) ** len(tests)
    for number in chosen:
        miss *= Fraction(100 - tests[number][1], 100)
    return int(miss)


def choices_of(tests):
    """All choices: those with the first test ahead of those without it, among these likewise by the second one."""
    found = []
    for taken in itertools.product((True, False), repeat=len(tests)):
        chosen = [number for number in range(len(tests)) if taken[number]]
        if all(taken[earlier] for number in chosen for earlier in tests[number][3]):
            found.append(chosen)
    return found


def best_within(setups, tests, most):
    """By the words: what budget answers."""
    found = [chosen for chosen in choices_of(tests) if cost_together(setups, tests, chosen) <= most]
    least = min(miss_of(tests, chosen) for chosen in found)
    found = [chosen for chosen in found if miss_of(tests, chosen) == least]
    cost = min(cost_together(setups, tests, chosen) for chosen in found)
    first = [chosen for chosen in found if cost_together(setups, tests, chosen) == cost][0]
    return [0, least, cost, len(first)] + first


class Refusals(unittest.TestCase):

    def refused(self, text, number, *calls):
        self.assertEqual(ask_kept(text, *calls), [[number]] * len(calls), calls)

    def test_budgets(self):
        for text in ("", GROUPS, EXAMPLE, FULL):
            for most in (-1, -2, 100001, 100002, 10 ** 18, -10 ** 18):
                self.refused(text, -7, budget(most))

    def test_the_least_and_the_greatest_budget(self):
        self.assertEqual(ask_kept("", budget(0), budget(100000)), [[0, 1, 0, 0]] * 2)
        self.assertEqual(ask_kept(EXAMPLE, budget(0), budget(100000)),
                         [[0, 1000000, 0, 0], [0, 360000, 21, 3, 0, 1, 2]])

    def test_a_test_that_is_not_there(self):
        for number in (3, 4, -1, -2, -3, 10 ** 18, -10 ** 18):
            self.refused(EXAMPLE, -12, choice(number), choice(0, number), choice(number, 0), choice(0, 1, 2, number))
            self.refused("", -12, choice(number))
        self.refused("", -12, choice(0))
        self.refused(GROUPS, -12, choice(0), choice(1))

    def test_a_test_that_is_there_twice(self):
        self.refused(EXAMPLE, -12, choice(0, 0), choice(1, 0, 1), choice(0, 1, 2, 0), choice(1, 1, 1))

    def test_long_lists(self):
        self.refused(EXAMPLE, -12, choice(*[0] * 5000))
        self.refused(EXAMPLE, -12, choice(*range(5000)))
        self.refused(EXAMPLE, -12, choice(*range(-5000, 0)))
        self.refused("", -12, choice(*range(5000)))

    def test_no_tests_are_told_ahead_of_a_missing_earlier_one(self):
        self.refused(EXAMPLE, -12, choice(2, 2), choice(2, 3), choice(3, 2), choice(2, -1), choice(1, 2, 1),
                     choice(2, 10 ** 18), choice(2, -10 ** 18))


class Choices(unittest.TestCase):

    def chosen(self, text, numbers, miss, cost):
        self.assertEqual(ask_kept(text, choice(*numbers)), [[0, miss, cost]], numbers)

    def lacks(self, text, *numbers):
        self.assertEqual(ask_kept(text, choice(*numbers)), [[1]], numbers)

    def test_the_example(self):
        self.chosen(EXAMPLE, (0, 2), 400000, 19)
        self.lacks(EXAMPLE, 2)

    def test_the_empty_list(self):
        self.assertEqual(ask(choice()), [[0, 1, 0]])
        self.chosen(GROUPS, (), 1, 0)
        self.chosen(EXAMPLE, (), 1000000, 0)
        self.chosen(FULL, (), 10 ** 14, 0)

    def test_in_any_order(self):
        for numbers in itertools.permutations(range(3)):
            self.chosen(EXAMPLE, numbers, 360000, 21)
        self.chosen(EXAMPLE, (2, 0), 400000, 19)

    def test_without_groups(self):
        text = "test a cost 2 chance 30; test b cost 30 chance 40; test c cost 400 chance 50;"
        self.chosen(text, (0,), 700000, 2)
        self.chosen(text, (1,), 600000, 30)
        self.chosen(text, (2, 1), 300000, 430)
        self.chosen(text, (2, 0, 1), 210000, 432)

    def test_chances_of_0_and_of_100(self):
        text = "test a cost 2 chance 0; test b cost 30 chance 100; test c cost 400 chance 1;"
        self.chosen(text, (0,), 1000000, 2)
        self.chosen(text, (1,), 0, 30)
        self.chosen(text, (0, 2), 990000, 402)
        self.chosen(text, (1, 2), 0, 430)

    def test_a_setup_counts_once(self):
        text = plan_text([10, 200, 0], [(1, 10, 0, []), (2, 20, 1, []), (3, 30, 0, []), (4, 40, None, []), (5, 0, 2, [])])
        self.chosen(text, (0,), 90 * 10 ** 8, 11)
        self.chosen(text, (0, 2), 63 * 10 ** 8, 14)
        self.chosen(text, (2, 1, 0), 504 * 10 ** 7, 216)
        self.chosen(text, (3, 4), 60 * 10 ** 8, 9)
        self.chosen(text, (0, 1, 2, 3, 4), 3024 * 10 ** 6, 225)

    def test_a_test_must_run_behind_one_that_is_not_in_it(self):
        text = plan_text([], [(1, 10, None, []), (1, 10, None, [0]), (1, 10, None, [1]), (1, 10, None, [2, 0])])
        self.lacks(text, 1)
        self.lacks(text, 2)
        self.lacks(text, 2, 1)
        self.lacks(text, 0, 2)
        self.lacks(text, 3, 0)
        self.lacks(text, 3, 2)
        self.lacks(text, 0, 2, 3)
        self.lacks(text, 3, 2, 1)
        self.chosen(text, (1, 0), 81 * 10 ** 6, 2)
        self.chosen(text, (2, 1, 0), 729 * 10 ** 5, 3)
        self.chosen(text, (0, 1, 2, 3), 9 ** 4 * 10 ** 4, 4)

    def test_a_missing_one_counts_wherever_the_test_stands(self):
        text = plan_text([], [(1, 10, None, []), (1, 10, None, []), (1, 10, None, [1, 0])])
        for numbers in ((2,), (2, 0), (0, 2), (1, 2), (2, 1)):
            self.lacks(text, *numbers)
        for numbers in itertools.permutations(range(3)):
            self.chosen(text, numbers, 729000, 3)

    def test_the_greatest_plan(self):
        self.chosen(FULL, range(7), 50 ** 7, 10000)
        self.chosen(FULL, (0, 1, 2), 50 ** 3 * 10 ** 8, 6000)
        self.chosen(FULL, (6, 3, 0), 50 ** 3 * 10 ** 8, 4000)

    def test_against_the_words(self):
        for setups, tests in some_plans(80, 5, 10):
            choices = choices_of(tests)
            for taken in itertools.product((True, False), repeat=len(tests)):
                numbers = [number for number in range(len(tests)) if taken[number]]
                if numbers in choices:
                    self.chosen(plan_text(setups, tests), numbers, miss_of(tests, numbers),
                                cost_together(setups, tests, numbers))
                else:
                    self.lacks(plan_text(setups, tests), *numbers)


class Budgets(unittest.TestCase):

    def best(self, text, most, miss, cost, *chosen):
        self.assertEqual(ask_kept(text, budget(most)), [[0, miss, cost, len(chosen)] + list(chosen)], most)

    def test_the_example(self):
        self.best(EXAMPLE, 12, 500000, 10, 0)
        self.best(EXAMPLE, 17, 450000, 17, 0, 1)

    def test_just_enough_and_one_too_small(self):
        self.best(EXAMPLE, 6, 1000000, 0)
        self.best(EXAMPLE, 7, 900000, 7, 1)
        self.best(EXAMPLE, 9, 900000, 7, 1)
        self.best(EXAMPLE, 10, 500000, 10, 0)
        self.best(EXAMPLE, 16, 500000, 10, 0)
        self.best(EXAMPLE, 17, 450000, 17, 0, 1)
        self.best(EXAMPLE, 18, 450000, 17, 0, 1)
        self.best(EXAMPLE, 19, 400000, 19, 0, 2)
        self.best(EXAMPLE, 20, 400000, 19, 0, 2)
        self.best(EXAMPLE, 21, 360000, 21, 0, 1, 2)
        self.best("test t cost 1 chance 1;", 0, 100, 0)
        self.best("test t cost 1 chance 1;", 1, 99, 1, 0)

    def test_no_tests(self):
        for most in (0, 1, 100000):
            self.assertEqual(ask(budget(most)), [[0, 1, 0, 0]])
            self.best(GROUPS, most, 1, 0)

    def test_without_groups(self):
        text = plan_text([], [(6, 60, None, []), (5, 50, None, []), (5, 45, None, [])])
        self.best(text, 5, 500000, 5, 1)
        self.best(text, 9, 400000, 6, 0)
        self.best(text, 10, 275000, 10, 1, 2)
        self.best(text, 11, 200000, 11, 0, 1)
        self.best(text, 15, 200000, 11, 0, 1)
        self.best(text, 16, 110000, 16, 0, 1, 2)

    def test_a_setup_counts_once(self):
        text = plan_text([10], [(1, 10, 0, []), (1, 10, 0, []), (11, 15, None, [])])
        self.best(text, 10, 1000000, 0)
        self.best(text, 11, 850000, 11, 2)
        self.best(text, 12, 810000, 12, 0, 1)
        self.best(text, 22, 765000, 22, 0, 2)
        self.best(text, 23, 688500, 23, 0, 1, 2)

    def test_chances_of_0(self):
        self.best("test a cost 1 chance 0; test b cost 1 chance 0;", 100000, 10000, 0)
        text = "test a cost 3 chance 0; test b cost 2 chance 50 after a;"
        self.best(text, 4, 10000, 0)
        self.best(text, 5, 5000, 5, 0, 1)

    def test_chances_of_100(self):
        text = "test a cost 9 chance 100; test b cost 3 chance 100; test c cost 1 chance 99;"
        self.best(text, 2, 10000, 1, 2)
        self.best(text, 3, 0, 3, 1)
        self.best(text, 100000, 0, 3, 1)

    def test_tests_behind_others(self):
        text = plan_text([], [(4, 1, None, []), (1, 2, None, [0]), (1, 90, None, [1]), (3, 50, None, [])])
        self.best(text, 5, 50 * 10 ** 6, 3, 3)
        self.best(text, 6, 99 * 98 * 10 * 100, 6, 0, 1, 2)
        self.best(text, 9, 99 * 98 * 10 * 50, 9, 0, 1, 2, 3)

    def test_of_choices_that_miss_alike_the_one_that_costs_least(self):
        self.best("test a cost 5 chance 50; test b cost 4 chance 50;", 5, 5000, 4, 1)
        self.best(plan_text([], [(3, 50, None, []), (2, 50, None, []), (4, 75, None, [])]), 5, 250000, 4, 2)
        self.best(plan_text([5], [(1, 50, 0, []), (5, 50, None, []), (2, 50, None, [])]), 6, 500000, 2, 2)

    def test_of_alike_choices_the_first(self):
        alike = plan_text([], [(5, 50, None, [])] * 3)
        self.best(alike, 5, 500000, 5, 0)
        self.best(alike, 10, 250000, 10, 0, 1)
        self.best(plan_text([], [(4, 75, None, []), (2, 50, None, []), (2, 50, None, [])]), 4, 250000, 4, 0)
        self.best(plan_text([], [(2, 50, None, []), (2, 50, None, []), (4, 75, None, [])]), 4, 250000, 4, 0, 1)
        self.best(plan_text([], [(2, 60, None, []), (1, 20, None, []), (4, 90, None, []), (3, 80, None, [])]), 5,
                  8000000, 5, 0, 3)
        self.best(plan_text([], [(1, 20, None, []), (2, 60, None, []), (3, 80, None, []), (4, 90, None, [])]), 5,
                  8000000, 5, 0, 3)

    def test_the_greatest_plan(self):
        self.best(FULL, 1999, 10 ** 14, 0)
        self.best(FULL, 2000, 50 * 10 ** 12, 2000, 0)
        self.best(FULL, 5999, 50 ** 3 * 10 ** 8, 4000, 0, 3, 6)
        self.best(FULL, 6000, 50 ** 4 * 10 ** 6, 6000, 0, 1, 3, 4)
        self.best(FULL, 9999, 50 ** 6 * 100, 9000, 0, 1, 2, 3, 4, 5)
        self.best(FULL, 10000, 50 ** 7, 10000, *range(7))
        self.best(FULL, 100000, 50 ** 7, 10000, *range(7))

    def test_against_the_words(self):
        for setups, tests in some_plans(120, 6, 11) + some_plans(15, 7, 12):
            costs = sorted({cost_together(setups, tests, chosen) for chosen in choices_of(tests)})
            asked = [most for cost in costs[::len(costs) // 20 + 1] for most in (cost, cost - 1) if most >= 0]
            found = ask_of(plan_text(setups, tests), *[budget(most) for most in asked])
            self.assertEqual(found, [best_within(setups, tests, most) for most in asked])

    def test_choice_of_the_best_choice_is_as_told(self):
        for most in (0, 7, 10, 17, 19, 21):
            answer, = ask_of(EXAMPLE, budget(most))
            self.assertEqual(ask_of(EXAMPLE, choice(*answer[4:])), [answer[:3]])


class Size(unittest.TestCase):

    def size(self, text, *numbers):
        self.assertEqual(ask_kept(text, SIZE), [[0] + list(numbers)])

    def test_the_example(self):
        self.size(EXAMPLE, 1, 3, 360000)

    def test_no_tests(self):
        self.assertEqual(ask(SIZE), [[0, 0, 0, 1]])
        self.size("# nothing", 0, 0, 1)
        self.size(GROUPS, 2, 0, 1)

    def test_chances_of_0_and_of_100(self):
        self.size("test a cost 1 chance 0;", 0, 1, 100)
        self.size("test a cost 1 chance 100;", 0, 1, 0)
        self.size(GROUPS + "test a cost 1 chance 100; test b cost 1 chance 0 in g;", 2, 2, 0)

    def test_all_tests_together_whatever_they_cost_and_are_behind(self):
        self.size("test a cost 1000 chance 30; test b cost 1 chance 1 after a;", 0, 2, 6930)

    def test_the_greatest_plan(self):
        self.size(FULL, 3, 7, 50 ** 7)
        self.size(plan_text([0] * 3, [(1, 0, None, [])] * 7), 3, 7, 10 ** 14)

    def test_against_the_words(self):
        for setups, tests in some_plans(60, 7, 13):
            self.size(plan_text(setups, tests), len(setups), len(tests), miss_of(tests, range(len(tests))))


if __name__ == "__main__":
    unittest.main()
