"""machines and time: refusals, the time of a way, the first way with the least time."""

import itertools
import unittest

from helper import EXAMPLE, ask, ask_kept, ask_of, cost_together, machines, plan_text, some_plans, time

GROUPS = "group g 5; group h 6;"
FULL = plan_text([1000] * 3, [(1000, 50, number % 3, []) for number in range(7)])


def time_of(setups, tests, many, way):
    """By the words: the greatest time of the machines."""
    times = [0] * many
    for machine in range(many):
        times[machine] = cost_together(setups, tests, [at for at, given in enumerate(way) if given == machine])
    return max(times)


def ways_of(tests, many):
    """All ways, in order by the first test's machine, then by the second one's, and so on."""
    return list(itertools.product(range(many), repeat=len(tests)))


class Refusals(unittest.TestCase):

    def refused(self, text, number, *calls):
        self.assertEqual(ask_kept(text, *calls), [[number]] * len(calls), calls)

    def test_how_many_machines(self):
        for text in ("", GROUPS, EXAMPLE, FULL):
            for many in (0, 4, 5, -1, -2, -3, 10 ** 18, -10 ** 18):
                self.refused(text, -7, machines(many))

    def test_how_many_machines_a_way_is_told_for(self):
        for many in (0, 4, 5, -1, -3, 10 ** 18, -10 ** 18):
            self.refused(EXAMPLE, -7, time(many, 0, 0, 0))
            self.refused("", -7, time(many))

    def test_the_number_of_machines_is_told_ahead_of_the_way(self):
        for many in (0, 4, -1, 10 ** 18, -10 ** 18):
            self.refused(EXAMPLE, -7, time(many), time(many, 0, 0), time(many, 9, 9, 9), time(many, -1, 0, 0))
            self.refused(EXAMPLE, -7, time(many, *[0] * 5000))
            self.refused("", -7, time(many, 0))

    def test_a_way_that_is_too_short_or_too_long(self):
        for many in (1, 2, 3):
            self.refused(EXAMPLE, -12, time(many), time(many, 0), time(many, 0, 0), time(many, 0, 0, 0, 0))
            self.refused(EXAMPLE, -12, time(many, *[0] * 5000))
            self.refused("", -12, time(many, 0), time(many, *[0] * 5000))
            self.refused(GROUPS, -12, time(many, 0))

    def test_a_machine_that_is_not_there(self):
        for many in (1, 2, 3):
            for number in (many, many + 1, -1, -many, 10 ** 18, -10 ** 18):
                self.refused(EXAMPLE, -12, time(many, number, 0, 0), time(many, 0, number, 0), time(many, 0, 0, number))

    def test_the_greatest_machine_there_is(self):
        self.assertEqual(ask_kept(EXAMPLE, time(1, 0, 0, 0), time(2, 1, 1, 1), time(3, 2, 2, 2)), [[0, 21]] * 3)

    def test_a_row_behind_a_number_that_is_refused_is_passed_over(self):
        self.assertEqual(ask_of(EXAMPLE, time(0, 5, 2, 5, 2), machines(2), time(4, 9, 9), time(2, 0, 1, 0)),
                         [[-7], [0, 11, 0, 1, 1], [-7], [0, 19]])


class Times(unittest.TestCase):

    def times(self, text, many, way, least):
        self.assertEqual(ask_kept(text, time(many, *way)), [[0, least]], way)

    def test_the_example(self):
        self.times(EXAMPLE, 2, (0, 1, 0), 19)
        self.times(EXAMPLE, 2, (0, 1, 1), 11)
        self.times(EXAMPLE, 2, (1, 0, 0), 11)
        self.times(EXAMPLE, 3, (0, 1, 2), 10)
        self.times(EXAMPLE, 1, (0, 0, 0), 21)

    def test_no_tests(self):
        for many in (1, 2, 3):
            self.assertEqual(ask(time(many)), [[0, 0]])
            self.times(GROUPS, many, (), 0)

    def test_without_groups(self):
        text = "test a cost 2 chance 0; test b cost 30 chance 100; test c cost 400 chance 50;"
        self.times(text, 1, (0, 0, 0), 432)
        self.times(text, 2, (1, 0, 1), 402)
        self.times(text, 3, (2, 2, 0), 400)
        self.times(text, 3, (1, 1, 1), 432)

    def test_a_setup_counts_once_on_each_machine(self):
        text = plan_text([10, 200], [(1, 50, 0, []), (2, 50, 1, []), (3, 50, 0, []), (4, 50, None, [])])
        self.times(text, 1, (0, 0, 0, 0), 220)
        self.times(text, 2, (0, 1, 0, 0), 202)
        self.times(text, 2, (0, 1, 1, 0), 215)
        self.times(text, 3, (2, 0, 2, 0), 206)
        self.times(plan_text([10, 0], [(1, 50, 0, []), (2, 50, 1, []), (3, 50, 0, [])]), 2, (0, 1, 0), 14)

    def test_after_is_left_aside(self):
        text = "test a cost 5 chance 50; test b cost 4 chance 50 after a; test c cost 3 chance 50 after b, a;"
        self.times(text, 3, (2, 1, 0), 5)
        self.times(text, 2, (1, 0, 0), 7)

    def test_the_greatest_plan(self):
        self.times(FULL, 1, [0] * 7, 10000)
        self.times(FULL, 3, (0, 1, 2, 0, 1, 2, 0), 4000)
        self.times(FULL, 3, (0, 0, 0, 1, 1, 1, 2), 6000)

    def test_against_the_words(self):
        for setups, tests in some_plans(60, 7, 7):
            for many in (1, 2, 3):
                ways = ways_of(tests, many)
                ways = ways[::len(ways) // 25 + 1]
                found = ask_of(plan_text(setups, tests), *[time(many, *way) for way in ways])
                self.assertEqual(found, [[0, time_of(setups, tests, many, way)] for way in ways])


class BestWays(unittest.TestCase):

    def best(self, text, many, least, *way):
        self.assertEqual(ask_kept(text, machines(many)), [[0, least] + list(way)])

    def test_the_example(self):
        self.best(EXAMPLE, 1, 21, 0, 0, 0)
        self.best(EXAMPLE, 2, 11, 0, 1, 1)
        self.best(EXAMPLE, 3, 10, 0, 1, 2)

    def test_no_tests(self):
        for many in (1, 2, 3):
            self.assertEqual(ask(machines(many)), [[0, 0]])
            self.best(GROUPS, many, 0)

    def test_one_test(self):
        for many in (1, 2, 3):
            self.best(GROUPS + "test t cost 7 chance 30 in h;", many, 13, 0)
            self.best("test t cost 7 chance 30;", many, 7, 0)

    def test_alike_ways(self):
        alike = plan_text([], [(1, 50, None, [])] * 4)
        self.best(alike, 2, 2, 0, 0, 1, 1)
        self.best(alike, 3, 2, 0, 0, 1, 1)
        self.best(plan_text([], [(1, 50, None, [])] * 5), 3, 2, 0, 0, 1, 1, 2)

    def test_the_first_of_alike_ways_is_not_the_evenest_one(self):
        self.best(plan_text([], [(10, 50, None, []), (3, 50, None, []), (4, 50, None, [])]), 3, 10, 0, 1, 1)
        self.best(plan_text([], [(1, 50, None, []), (1, 50, None, []), (10, 50, None, [])]), 3, 10, 0, 0, 1)
        self.best(plan_text([], [(2, 50, None, []), (3, 50, None, []), (7, 50, None, []), (1, 50, None, [])]), 2, 7,
                  0, 0, 1, 0)

    def test_setups(self):
        tests = [(1, 50, 0, []), (1, 50, 0, [])]
        self.best(plan_text([100], tests), 2, 101, 0, 1)
        self.best(plan_text([100], tests + [(101, 50, None, [])]), 2, 102, 0, 0, 1)
        self.best(plan_text([100], tests + [(101, 50, None, [])]), 3, 101, 0, 1, 2)
        self.best(plan_text([50, 50], tests + [(1, 50, 1, [])] * 2), 2, 52, 0, 0, 1, 1)
        self.best(plan_text([50, 50], [(1, 50, number % 2, []) for number in range(4)]), 2, 52, 0, 1, 0, 1)

    def test_after_and_chances_are_left_aside(self):
        self.best("test a cost 5 chance 0; test b cost 5 chance 100 after a; test c cost 5 chance 50 after a, b;", 3, 5,
                  0, 1, 2)

    def test_the_greatest_plan(self):
        self.best(FULL, 1, 10000, *[0] * 7)
        self.best(FULL, 3, 4000, 0, 1, 1, 0, 2, 2, 0)

    def test_against_the_words(self):
        for setups, tests in some_plans(60, 5, 8) + some_plans(8, 7, 9):
            for many in (1, 2, 3):
                ways = ways_of(tests, many)
                times = [time_of(setups, tests, many, way) for way in ways]
                self.best(plan_text(setups, tests), many, min(times), *ways[times.index(min(times))])

    def test_time_of_the_best_way_is_its_time(self):
        for many in (1, 2, 3):
            answer, = ask_of(FULL, machines(many))
            self.assertEqual(ask_of(FULL, time(many, *answer[2:])), [answer[:2]])


if __name__ == "__main__":
    unittest.main()
