"""The interface: lists of calls, counts ahead of answers, and what is kept (nothing)."""

import unittest

from testplans.planning import answers

from helper import (BEST, EXAMPLE, EXAMPLE_FORM, RULE, SIZE, WRITTEN, ask, budget, choice, expected, load, machines,
                    time)

# All ten calls, some of them refused, with loads between them: another plan, a fault, no bytes.
MIXED = (machines(2), load(EXAMPLE), BEST, time(2, 0, 1, 0), time(4, 0), choice(2), SIZE, load("test a cost"),
         budget(17), budget(-1), machines(0), WRITTEN, choice(2, 2), expected(1, 0, 2), load([256]), RULE,
         load("group g 3; test x cost 4 chance 25 in g;"), SIZE, machines(3), time(1, 0), time(3, 0, 0), choice(0),
         choice(1), budget(6), budget(7), BEST, WRITTEN, load(""), SIZE, expected(0))
MIXED_ANSWERS = [
    [0, 0], [0, 1, 3], [0, 15300000, 0, 1, 2], [0, 19], [-7], [1], [0, 1, 3, 360000], [1, 4, 11],
    [0, 450000, 17, 2, 0, 1], [-7], [-7], [0] + list(EXAMPLE_FORM.encode("ascii")), [-12], [0, 17800000], [-1],
    [0, 15300000, 0, 1, 2],
    [0, 1, 1], [0, 1, 1, 75], [0, 7, 0], [0, 7], [-12], [0, 75, 7],
    [-12], [0, 100, 0, 0], [0, 75, 7, 1, 0], [0, 700, 0],
    [0] + list(b"group g 3;\ntest x cost 4 chance 25 in g;\n"), [0, 0, 0], [0, 0, 0, 1], [-12]]


class Interface(unittest.TestCase):

    def test_the_example_in_one_list(self):
        calls = load(EXAMPLE) + expected(0, 1, 2) + expected(1, 0, 2) + expected(2, 0, 1) + BEST + RULE
        calls += machines(2) + time(2, 0, 1, 0) + budget(12) + budget(17) + choice(0, 2) + choice(2) + SIZE
        self.assertEqual(answers(calls), [
            3, 0, 1, 3, 2, 0, 15300000, 2, 0, 17800000, 1, -12,
            5, 0, 15300000, 0, 1, 2, 5, 0, 15300000, 0, 1, 2,
            5, 0, 11, 0, 1, 1, 2, 0, 19, 5, 0, 500000, 10, 1, 0, 6, 0, 450000, 17, 2, 0, 1,
            3, 0, 400000, 19, 1, 1, 4, 0, 1, 3, 360000])

    def test_written_has_its_count_ahead_of_it_and_none_within(self):
        form = list(EXAMPLE_FORM.encode("ascii"))
        self.assertEqual(answers(load(EXAMPLE) + WRITTEN), [3, 0, 1, 3, len(form) + 1, 0] + form)

    def test_each_call_first(self):
        self.assertEqual(answers(load("")), [3, 0, 0, 0])
        self.assertEqual(answers(load("A")), [3, 1, 1, 0])
        self.assertEqual(answers(WRITTEN), [1, 0])
        self.assertEqual(answers(expected()), [2, 0, 0])
        self.assertEqual(answers(expected(0)), [1, -12])
        self.assertEqual(answers(BEST), [2, 0, 0])
        self.assertEqual(answers(RULE), [2, 0, 0])
        self.assertEqual(answers(machines(2)), [2, 0, 0])
        self.assertEqual(answers(machines(0)), [1, -7])
        self.assertEqual(answers(time(2)), [2, 0, 0])
        self.assertEqual(answers(time(2, 0)), [1, -12])
        self.assertEqual(answers(budget(0)), [4, 0, 1, 0, 0])
        self.assertEqual(answers(choice()), [3, 0, 1, 0])
        self.assertEqual(answers(choice(0)), [1, -12])
        self.assertEqual(answers(SIZE), [4, 0, 0, 0, 1])

    def test_refusals_stand_alone(self):
        calls = expected(5) + load([300]) + load([32] * 4097) + load("group")
        self.assertEqual(answers(calls), [1, -12, 1, -1, 1, -2, 3, 1, 4, 5])
        calls = machines(4) + time(0) + time(1, 0) + budget(-1) + choice(0)
        self.assertEqual(answers(calls), [1, -7, 1, -7, 1, -12, 1, -7, 1, -12])

    def test_the_1_of_choice_stands_alone(self):
        self.assertEqual(answers(load(EXAMPLE) + choice(1, 2) + SIZE), [3, 0, 1, 3, 1, 1, 4, 0, 1, 3, 360000])

    def test_numbers_in_rows_that_look_like_calls(self):
        calls = expected(3, 4, 0, 1) + BEST + load([0, 1, 2, 3, 4]) + expected(2, 2, 2) + RULE
        self.assertEqual(answers(calls), [1, -12, 2, 0, 0, 3, 1, 1, 0, 1, -12, 2, 0, 0])
        calls = time(5, 6, 1, 7) + budget(8) + choice(9, 9, 9) + machines(3) + time(3, 3) + SIZE
        self.assertEqual(answers(calls), [1, -7, 4, 0, 1, 0, 0, 1, -12, 2, 0, 0, 1, -12, 4, 0, 0, 0, 1])

    def test_calls_in_any_order(self):
        one = "test a cost 3 chance 50;"
        found = ask(BEST, load(one), RULE, load("test"), expected(0), load(""), expected(0), load(one), BEST, WRITTEN)
        self.assertEqual(found, [
            [0, 0], [0, 0, 1], [0, 300, 0], [1, 4, 4], [0, 300], [0, 0, 0], [-12], [0, 0, 1], [0, 300, 0],
            [0] + list(b"test a cost 3 chance 50;\n")])

    def test_all_ten_calls_mixed(self):
        self.assertEqual(ask(*MIXED), MIXED_ANSWERS)
        self.assertEqual({call[0] for call in MIXED}, set(range(10)))

    def test_sixty_calls(self):
        found = ask(load(EXAMPLE), *[BEST] * 59)
        self.assertEqual(found, [[0, 1, 3]] + [[0, 15300000, 0, 1, 2]] * 59)
        found = ask(*(MIXED + MIXED))
        self.assertEqual(found, MIXED_ANSWERS + MIXED_ANSWERS)

    def test_long_lists_of_calls(self):
        calls = (load([32] * 4096), load([32] * 5000), expected(*range(5000)), load("#" + "x" * 2000), BEST)
        self.assertEqual(ask(*calls), [[0, 0, 0], [-2], [-12], [0, 0, 0], [0, 0]])
        calls = (load(EXAMPLE), time(3, *[0] * 5000), time(-1, *[0] * 5000), choice(*range(5000)), SIZE)
        self.assertEqual(ask(*calls), [[0, 1, 3], [-12], [-7], [-12], [0, 1, 3, 360000]])

    def test_what_is_handed_in_is_not_changed(self):
        calls = load(EXAMPLE) + expected(1, 0, 2) + load("A") + BEST + RULE + WRITTEN + expected(2, 1, 0)
        calls += choice(2, 0) + choice(2) + choice(3) + time(2, 1, 0, 1) + time(9) + budget(17) + machines(2) + SIZE
        calls += [number for call in MIXED for number in call]
        before = list(calls)
        answers(calls)
        self.assertEqual(calls, before)

    def test_nothing_is_kept_from_one_time_to_the_next(self):
        calls = WRITTEN + BEST + load(EXAMPLE) + BEST + WRITTEN
        first = answers(calls)
        kept = list(first)
        first.append(0)
        self.assertEqual(answers(calls), kept)
        self.assertEqual(answers(WRITTEN), [1, 0])
        self.assertEqual(answers(expected()), [2, 0, 0])
        self.assertEqual(answers(load(EXAMPLE) + SIZE), [3, 0, 1, 3, 4, 0, 1, 3, 360000])
        self.assertEqual(answers(SIZE), [4, 0, 0, 0, 1])
        self.assertEqual(answers(machines(3) + time(3) + budget(9) + choice()), [2, 0, 0, 2, 0, 0, 4, 0, 1, 0, 0,
                                                                                 3, 0, 1, 0])

    def test_whole_numbers_alone_are_given_back(self):
        calls = load(EXAMPLE) + load("A") + load([256]) + WRITTEN + expected(0, 1, 2) + expected() + BEST + RULE
        calls += machines(2) + machines(0) + time(2, 0, 1, 1) + time(2) + budget(17) + choice(0, 2) + choice(2) + SIZE
        given = answers(calls)
        self.assertIs(type(given), list)
        self.assertEqual({type(number) for number in given}, {int})


if __name__ == "__main__":
    unittest.main()
