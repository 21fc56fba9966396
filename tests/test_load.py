"""load: refusals, the plan that is loaded, and the first fault of a text."""

import unittest

from helper import EXAMPLE, EXAMPLE_FORM, WRITTEN, ask, ask_of, load, written_text

GROUP = "group g 5;"
TEST = "test t cost 5 chance 5;"
NAMES = "abcdefgh"


def tests_named(names):
    return "".join("test %s cost 1 chance 1;" % name for name in names)


def groups_named(names):
    return "".join("group %s 1;" % name for name in names)


class LoadCase(unittest.TestCase):

    def answer(self, text):
        return ask(load(text))[0]

    def loaded(self, text, groups, tests):
        self.assertEqual(self.answer(text), [0, groups, tests], text)

    def fault(self, text, kind, place):
        """A text's fault; place is a number, or a text whose last occurrence is meant."""
        if isinstance(place, str):
            place = text.rindex(place)
        self.assertEqual(self.answer(text), [1, kind, place], text)

    def ends_early(self, text):
        self.fault(text, 4, len(text))


class Refusals(LoadCase):

    def test_numbers_that_are_no_bytes(self):
        for number in (-1, 256, -10 ** 18, 10 ** 18):
            self.assertEqual(self.answer([number]), [-1])
            self.assertEqual(self.answer([32] * 4095 + [number]), [-1])
            self.assertEqual(self.answer([65, number, 65]), [-1])

    def test_the_least_and_the_greatest_byte_are_read(self):
        self.assertEqual(self.answer([0]), [1, 1, 0])
        self.assertEqual(self.answer([255]), [1, 1, 0])

    def test_length(self):
        self.assertEqual(self.answer([32] * 4096), [0, 0, 0])
        self.assertEqual(self.answer([32] * 4097), [-2])
        self.assertEqual(self.answer([32] * 5000), [-2])
        self.assertEqual(self.answer([65] * 4097), [-2])

    def test_a_full_text_with_its_fault_at_the_end(self):
        self.assertEqual(self.answer("group" + " " * 4091), [1, 4, 4096])
        self.assertEqual(self.answer(" " * 4095 + "A"), [1, 1, 4095])

    def test_no_byte_is_told_ahead_of_too_long(self):
        self.assertEqual(self.answer([32] * 4097 + [256]), [-1])
        self.assertEqual(self.answer([-1] + [32] * 4999), [-1])

    def test_a_refusal_leaves_the_plan(self):
        found = ask_of(EXAMPLE, load([256]), WRITTEN, load([32] * 4097), WRITTEN)
        self.assertEqual(found[0], [-1])
        self.assertEqual(written_text(found[1]), EXAMPLE_FORM)
        self.assertEqual(found[2], [-2])
        self.assertEqual(written_text(found[3]), EXAMPLE_FORM)


class Loaded(LoadCase):

    def test_the_example(self):
        self.loaded(EXAMPLE, 1, 3)

    def test_texts_that_tell_nothing(self):
        for text in ("", " ", "\t\n\r ", "#", "# group", "#\n#", "###\n \n# \xff\x00 A_"):
            self.loaded(text, 0, 0)

    def test_groups_and_tests_in_any_order(self):
        self.loaded(GROUP, 1, 0)
        self.loaded(TEST, 0, 1)
        self.loaded(TEST + GROUP + "test u cost 5 chance 5 in g after t;" + "group h 0;", 2, 2)

    def test_gaps_and_remarks_part_tokens(self):
        self.loaded("group\tg\r5\n;test#x\nt#;\ncost 5 chance#cost\n#\n5;# end", 1, 1)
        self.loaded("group#" + "g" * 4000 + "\ng 5;", 1, 0)

    def test_tokens_that_touch(self):
        self.fault("group g5;", 3, ";")
        self.loaded("group g 5;group h 6;test t cost 5chance 5in g;test u cost 5chance 5after t;", 2, 2)
        self.loaded(tests_named("abc") + "test d cost 1 chance 1 after a,b,c;", 0, 4)
        self.loaded(tests_named("abc") + "test d cost 1 chance 1 after a , b\n,#,\nc ;", 0, 4)

    def test_names(self):
        for name in ("a", "z", "a0", "z9", "a_", "a__9z", "a" * 12, "groups", "tes", "cost_", "i", "inn", "after1"):
            self.loaded("group %s 5;" % name, 1, 0)
            self.loaded("test %s cost 5 chance 5;" % name, 0, 1)

    def test_a_group_and_a_test_may_have_the_same_name(self):
        self.loaded("group x 5; test x cost 5 chance 5 in x; test y cost 5 chance 5 in x after x;", 1, 2)

    def test_the_most_groups_and_tests(self):
        self.loaded(groups_named(NAMES[:3]), 3, 0)
        self.loaded(tests_named(NAMES[:7]), 0, 7)
        self.loaded(tests_named(NAMES[:7]) + groups_named(NAMES[:3]), 3, 7)

    def test_numbers(self):
        for number in ("0", "1", "9", "10", "100", "999", "1000"):
            self.loaded("group g %s;" % number, 1, 0)
        for number in ("1", "2", "1000"):
            self.loaded("test t cost %s chance 5;" % number, 0, 1)
        for number in ("0", "1", "99", "100"):
            self.loaded("test t cost 5 chance %s;" % number, 0, 1)

    def test_a_new_plan_takes_the_place_of_the_old_one(self):
        found = ask_of(EXAMPLE, load("test z cost 1 chance 2;"), WRITTEN, load(""), WRITTEN)
        self.assertEqual(found[0], [0, 0, 1])
        self.assertEqual(written_text(found[1]), "test z cost 1 chance 2;\n")
        self.assertEqual(found[2:], [[0, 0, 0], [0]])

    def test_a_fault_leaves_the_plan(self):
        found = ask_of(EXAMPLE, load("group new 1; test"), WRITTEN, load("test x cost 0"), WRITTEN)
        self.assertEqual(found[0], [1, 4, 17])
        self.assertEqual(written_text(found[1]), EXAMPLE_FORM)
        self.assertEqual(found[2], [1, 8, 12])
        self.assertEqual(written_text(found[3]), EXAMPLE_FORM)

    def test_a_fault_ahead_of_the_first_plan(self):
        self.assertEqual(ask(load("group g 5; A"), WRITTEN), [[1, 1, 11], [0]])


class StrangeBytes(LoadCase):

    def test_bytes_that_begin_no_token(self):
        letters = [ord(letter) for letter in "abcdefghijklmnopqrstuvwxyz"]
        begin = [9, 10, 13, 32] + list(b"#,;0123456789") + letters
        for byte in range(256):
            if byte not in begin:
                self.assertEqual(self.answer([byte]), [1, 1, 0], byte)
                self.assertEqual(self.answer([32, byte, 65]), [1, 1, 1], byte)

    def test_signs_and_numbers_that_begin_a_token_but_may_not_stand(self):
        for text in (",", ";", "0", "7"):
            self.fault(text, 3, 0)

    def test_behind_a_token(self):
        self.fault("group A", 1, "A")
        self.fault("group gA 5;", 1, "A")
        self.fault("group g _", 1, "_")
        self.fault("group g 5\x00;", 1, "\x00")
        self.fault("group g 5\xff", 1, "\xff")
        self.fault("group g 5.", 1, ".")
        self.fault(GROUP + "\x0b", 1, "\x0b")
        self.fault(GROUP + "\x0c", 1, "\x0c")
        self.fault(GROUP + "# A\n A", 1, len(GROUP) + 5)

    def test_it_counts_when_all_before_it_may_stand(self):
        self.fault("cost A", 3, 0)
        self.fault("aA", 3, 0)
        self.fault("group g g A", 3, 8)
        self.fault("test t cost 0A", 8, "0")
        self.fault(GROUP + "group gA", 6, "g")
        self.fault("test t cost 5 chance 5 in gA", 7, "g")


class BadTokens(LoadCase):

    def test_words(self):
        self.loaded("group abcdefghijkl 5;", 1, 0)
        self.fault("group abcdefghijklm 5;", 2, 6)
        self.fault("group a23456789_123 5;", 2, 6)
        self.fault("group a" + "_" * 4000 + " 5;", 2, 6)
        self.fault("test t cost 5 chance 5 in abcdefghijklm", 2, "abc")
        self.fault(TEST + "test u cost 5 chance 5 after abcdefghijklm", 2, "abc")

    def test_numbers(self):
        for number in ("00", "01", "000", "0000", "0100", "1001", "9999", "10000", "00000", "1" * 4000):
            self.fault("group g %s;" % number, 2, 8)
            self.fault("test t cost %s chance 5;" % number, 2, 12)
            self.fault("test t cost 5 chance %s;" % number, 2, 21)

    def test_wherever_all_before_them_may_stand(self):
        self.fault("abcdefghijklm", 2, 0)
        self.fault("01", 2, 0)
        self.fault("1001", 2, 0)
        self.fault("group 01", 2, 6)
        self.fault("group g abcdefghijklm", 2, 8)
        self.fault("group g 5 01", 2, 10)
        self.fault("test t cost 5 chance 5 1001", 2, "1001")
        self.fault(GROUP + "groupgroupgroup", 2, len(GROUP))

    def test_not_behind_what_may_not_stand(self):
        self.fault("test 5 abcdefghijklm", 3, "5")
        self.fault("test t cost 0 01", 8, "0 01")
        self.fault("test t cost 5 chance 5 in g 01", 7, "g")


class Misplaced(LoadCase):

    def test_each_token_that_does_not_fit(self):
        for text, place in (
                ("name", 0), ("cost", 0), ("in", 0), ("group g 5; ;", 11), ("group g 5; g", 11),
                ("group 5", 6), ("group ;", 6), ("group ,", 6),
                ("group g ;", 8), ("group g h", 8), ("group g ,", 8), ("group g cost", 8),
                ("group g 5 5;", 10), ("group g 5,", 9), ("group g 5 group", 10), ("group g 5 in", 10),
                ("test 5", 5), ("test ;", 5), ("test t 5", 7), ("test t chance", 7), ("test t ;", 7),
                ("test t cost chance", 12), ("test t cost ;", 12), ("test t cost x", 12),
                ("test t cost 5 5", 14), ("test t cost 5;", 13), ("test t cost 5 cost", 14),
                ("test t cost 5 chance;", 20), ("test t cost 5 chance x", 21),
                ("test t cost 5 chance 5,", 22), ("test t cost 5 chance 5 5", 23),
                ("test t cost 5 chance 5 test", 23), ("test t cost 5 chance 5 x", 23),
                ("test t cost 5 chance 5 in;", 25), ("test t cost 5 chance 5 in 5", 26),
                ("test t cost 5 chance 5 after;", 28), ("test t cost 5 chance 5 after,", 28),
                ("test t cost 5 chance 5 after 5", 29)):
            self.fault(text, 3, place)

    def test_behind_in_and_after(self):
        start = GROUP + TEST + "test u cost 5 chance 5 "
        for may_stand, token in (
                ("in g ", ","), ("in g ", "in"), ("in g ", "t"), ("in g ", "5"), ("in g ", "cost"),
                ("after t ", "5"), ("after t ", "t"), ("after t ", "after"), ("after t ", "in"),
                ("after t,", ","), ("after t,", ";"), ("after t, ", "5"), ("in g after t ", "in")):
            self.fault(start + may_stand + token, 3, len(start + may_stand))

    def test_after_stands_behind_in(self):
        self.loaded(GROUP + TEST + "test u cost 5 chance 5 in g after t;", 1, 2)
        self.fault(GROUP + TEST + "test u cost 5 chance 5 after t in g;", 3, "in g")

    def test_the_six_words_are_no_names(self):
        for word in ("group", "test", "cost", "chance", "in", "after"):
            self.fault("group %s 5;" % word, 3, 6)
            self.fault("test %s cost 5 chance 5;" % word, 3, 5)
            self.fault(GROUP + "test t cost 5 chance 5 in %s;" % word, 3, word + ";")
            self.fault(TEST + "test u cost 5 chance 5 after %s;" % word, 3, word + ";")
            self.fault(TEST + "test u cost 5 chance 5 after t, %s;" % word, 3, word + ";")


class TooEarlyEnds(LoadCase):

    def test_each_token_that_is_still_wanted(self):
        text = "group g 5 ; test t cost 5 chance 5 ; group h 6 ; test u cost 5 chance 5 in g after t ;"
        tokens = text.split(" ")
        for count in range(1, len(tokens)):
            part = " ".join(tokens[:count])
            if tokens[count - 1] != ";":
                self.ends_early(part)
                self.ends_early(part + " ")
        self.loaded(text, 2, 2)
        self.ends_early(TEST + "test u cost 5 chance 5 after t,")
        self.ends_early(TEST + tests_named("u") + "test v cost 5 chance 5 after t, u")

    def test_a_text_that_ends_within_a_word_that_is_whole_by_chance(self):
        self.ends_early("group g")
        self.ends_early("test t cost 5 chance 5 in")
        self.fault("grou", 3, 0)
        self.fault("test t cos", 3, 7)

    def test_behind_gaps_and_remarks(self):
        self.ends_early("group ")
        self.ends_early("group g\n\n")
        self.ends_early("group g # 5;")
        self.ends_early("group g 5 #;\n")
        self.ends_early("group g 5 #")
        self.loaded("group g 5; #", 1, 0)
        self.loaded(GROUP + "# group", 1, 0)

    def test_other_faults_ahead_of_it(self):
        self.fault(GROUP + "group g", 6, "g")
        self.fault("test t cost 0", 8, "0")
        self.fault("test t cost 5 chance 101", 8, "101")
        self.fault(groups_named("abc") + "group", 5, "group")


class TooMany(LoadCase):

    def test_a_fourth_group(self):
        start = groups_named("abc")
        self.fault(start + "group d 1;", 5, "group")
        self.fault(start + "group", 5, "group")
        self.fault(start + "group A", 5, "group")
        self.fault(start + "group a", 5, "group")
        self.fault(start + "group 01", 5, "group")
        self.fault(start + tests_named("abc") + " group d 1;", 5, "group")

    def test_an_eighth_test(self):
        start = tests_named(NAMES[:7])
        self.fault(start + "test h cost 1 chance 1;", 5, "test")
        self.fault(start + "test", 5, "test")
        self.fault(start + "test a cost 0", 5, "test")
        self.fault(start + groups_named("abc") + "test", 5, "test")

    def test_only_where_the_word_may_stand(self):
        self.fault(groups_named("ab") + "group c group", 3, "group")
        self.fault(groups_named("abc") + "groups", 3, "groups")
        self.fault(tests_named(NAMES[:6]) + "test g test", 3, "test")


class Repeated(LoadCase):

    def test_groups(self):
        self.fault("group g 5; group g 6;", 6, "g 6")
        self.fault("group g 5; group h 5; group g 6;", 6, "g 6")
        self.fault("group g 5; test g cost 5 chance 5; group g 5", 6, "g 5")

    def test_tests(self):
        self.fault(TEST + "test t cost 5 chance 5;", 6, "t cost")
        self.fault(tests_named("abc") + "test b", 6, "b")
        self.fault("group t 5; " + TEST + "test t", 6, len("group t 5; " + TEST) + 5)

    def test_names_that_are_alike_only_in_part(self):
        self.loaded(groups_named(["a", "aa", "a_"]) + tests_named(["b", "bb", "b1", "b_"]), 3, 4)

    def test_behind_after(self):
        start = tests_named("abc") + "test d cost 1 chance 1 after "
        self.fault(start + "a, a;", 6, "a;")
        self.fault(start + "a, b, a", 6, len(start) + 6)
        self.fault(start + "b, c, b, b", 6, len(start) + 6)
        self.loaded(start + "c, b, a;", 0, 4)

    def test_after_counts_for_each_test_alone(self):
        self.loaded(tests_named("a") + "test b cost 1 chance 1 after a; test c cost 1 chance 1 after a;", 0, 3)


class Unknown(LoadCase):

    def test_groups(self):
        self.fault("test t cost 5 chance 5 in g;", 7, "g;")
        self.fault("test t cost 5 chance 5 in g; group g 5;", 7, "g;")
        self.fault(GROUP + "test t cost 5 chance 5 in gg;", 7, "gg;")
        self.fault(GROUP + TEST + "test u cost 5 chance 5 in t;", 7, "t;")

    def test_tests(self):
        self.fault("test t cost 5 chance 5 after u;", 7, "u;")
        self.fault("test t cost 5 chance 5 after t;", 7, "t;")
        self.fault("test t cost 5 chance 5 after u; test u cost 5 chance 5;", 7, "u; ")
        self.fault(GROUP + "test t cost 5 chance 5 after g;", 7, "g;")
        self.fault(TEST + "test u cost 5 chance 5 after t, v;", 7, "v;")
        self.fault(TEST + "test u cost 5 chance 5 after v, t;", 7, "v,")
        self.fault(TEST + "test u cost 5 chance 5 after t, u;", 7, "u;")

    def test_in_and_after_may_stand_where_there_is_none_yet(self):
        self.ends_early("test t cost 5 chance 5 in")
        self.ends_early("test t cost 5 chance 5 after")
        self.fault("test t cost 5 chance 5 in g after u", 7, "g after")


class OutOfRange(LoadCase):

    def test_costs(self):
        self.fault("test t cost 0 chance 5;", 8, "0")
        self.loaded("test t cost 1 chance 5;", 0, 1)
        self.loaded("group g 0;", 1, 0)

    def test_chances(self):
        self.fault("test t cost 5 chance 101;", 8, "101")
        self.fault("test t cost 5 chance 1000;", 8, "1000")
        self.loaded("test t cost 5 chance 100;", 0, 1)
        self.loaded("test t cost 5 chance 0;", 0, 1)

    def test_the_first_of_several(self):
        self.fault("test t cost 0 chance 101 in g after u;", 8, "0 ")
        self.fault("test t cost 5 chance 101 in g after u;", 8, "101")
        self.fault("test t cost 5 chance 5 in g after u; A", 7, "g ")
        self.fault(TEST + "test t cost 0", 6, "t cost")
        self.fault(TEST + "test u cost 5 chance 5 after t, t, v; 01", 6, "t, v")


if __name__ == "__main__":
    unittest.main()
