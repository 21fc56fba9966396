"""The interface: lists of calls, counts ahead of answers, and what is kept (nothing)."""

import unittest

from testplans.planning import answers

from helper import BEST, EXAMPLE, EXAMPLE_FORM, RULE, WRITTEN, ask, expected, load


class Interface(unittest.TestCase):

    def test_the_example_in_one_list(self):
        calls = load(EXAMPLE) + expected(0, 1, 2) + expected(1, 0, 2) + expected(2, 0, 1) + BEST + RULE
        self.assertEqual(answers(calls), [
            3, 0, 1, 3, 2, 0, 15300000, 2, 0, 17800000, 1, -12,
            5, 0, 15300000, 0, 1, 2, 5, 0, 15300000, 0, 1, 2])

    def test_written_has_its_count_ahead_of_it_and_none_within(self):
        form = list(EXAMPLE_FORM.encode("ascii"))
        self.assertEqual(answers(load(EXAMPLE) + WRITTEN), [3, 0, 1, 3, len(form) + 1, 0] + form)

    def test_each_call_first(self):
        self.assertEqual(answers(load("")), [3, 0, 0, 0])
        self.assertEqual(answers(load("A")), [3, 1, 1, 0])
        self.assertEqual(answers(WRITTEN), [1, 0])
        self.assertEqual(answers(expected()), [2, 0, 0])
        self.assertEqual(answers(expected(0)), [1, -12])
        self.assertEqual(answers(BEST), [2, 0, 0])
        self.assertEqual(answers(RULE), [2, 0, 0])

    def test_refusals_stand_alone(self):
        calls = expected(5) + load([300]) + load([32] * 4097) + load("group")
        self.assertEqual(answers(calls), [1, -12, 1, -1, 1, -2, 3, 1, 4, 5])

    def test_numbers_in_rows_that_look_like_calls(self):
        calls = expected(3, 4, 0, 1) + BEST + load([0, 1, 2, 3, 4]) + expected(2, 2, 2) + RULE
        self.assertEqual(answers(calls), [1, -12, 2, 0, 0, 3, 1, 1, 0, 1, -12, 2, 0, 0])

    def test_calls_in_any_order(self):
        one = "test a cost 3 chance 50;"
        found = ask(BEST, load(one), RULE, load("test"), expected(0), load(""), expected(0), load(one), BEST, WRITTEN)
        self.assertEqual(found, [
            [0, 0], [0, 0, 1], [0, 300, 0], [1, 4, 4], [0, 300], [0, 0, 0], [-12], [0, 0, 1], [0, 300, 0],
            [0] + list(b"test a cost 3 chance 50;\n")])

    def test_sixty_calls(self):
        found = ask(load(EXAMPLE), *[BEST] * 59)
        self.assertEqual(found, [[0, 1, 3]] + [[0, 15300000, 0, 1, 2]] * 59)

    def test_long_lists_of_calls(self):
        calls = (load([32] * 4096), load([32] * 5000), expected(*range(5000)), load("#" + "x" * 2000), BEST)
        self.assertEqual(ask(*calls), [[0, 0, 0], [-2], [-12], [0, 0, 0], [0, 0]])

    def test_what_is_handed_in_is_not_changed(self):
        calls = load(EXAMPLE) + expected(1, 0, 2) + load("A") + BEST + RULE + WRITTEN + expected(2, 1, 0)
        before = list(calls)
        answers(calls)
        self.assertEqual(calls, before)

    def test_nothing_is_kept_from_one_time_to_the_next(self):
        calls = WRITTEN + BEST + load(EXAMPLE) + BEST + WRITTEN
        first = answers(calls)
        kept = list(first)
        first.append(0)
        self.assertEqual(answers(calls), kept)
        self.assertEqual(answers(WRITTEN), [1, 0])
        self.assertEqual(answers(expected()), [2, 0, 0])

    def test_whole_numbers_alone_are_given_back(self):
        calls = load(EXAMPLE) + load("A") + load([256]) + WRITTEN + expected(0, 1, 2) + expected() + BEST + RULE
        given = answers(calls)
        self.assertIs(type(given), list)
        self.assertEqual({type(number) for number in given}, {int})


if __name__ == "__main__":
    unittest.main()
