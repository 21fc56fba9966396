"""written: the one form of a plan's text."""

import unittest

from helper import EXAMPLE, EXAMPLE_FORM, WRITTEN, ask, ask_of, load, written_text


class Written(unittest.TestCase):

    def written_as(self, text, form):
        """A text is written in its one form, which is loaded as the same again."""
        self.assertEqual(written_text(ask_of(text, WRITTEN)[0]), form)
        self.assertEqual(written_text(ask_of(form, WRITTEN)[0]), form)

    def test_the_example(self):
        self.written_as(EXAMPLE, EXAMPLE_FORM)

    def test_no_groups_and_no_tests(self):
        self.assertEqual(ask(WRITTEN), [[0]])
        self.assertEqual(ask(load("# nothing"), WRITTEN), [[0, 0, 0], [0]])

    def test_the_bytes(self):
        self.assertEqual(ask_of("group g 0;", WRITTEN), [[0] + list(b"group g 0;\n")])

    def test_neither_in_nor_after(self):
        self.written_as(" test\tt cost\n1000 chance 100 ; # end", "test t cost 1000 chance 100;\n")

    def test_in(self):
        self.written_as("group a 0;group b 1000;test t cost 1 chance 0in b;",
                        "group a 0;\ngroup b 1000;\ntest t cost 1 chance 0 in b;\n")

    def test_after_as_it_was_told(self):
        start = "test a cost 1 chance 2;\ntest b cost 3 chance 4;\ntest c cost 5 chance 6;\n"
        for told, names in (("after a", "a"), ("after c,a , b", "c, a, b"), ("after b,\n#\nc", "b, c")):
            self.written_as(start + "test d cost 7 chance 8 %s;" % told,
                            start + "test d cost 7 chance 8 after %s;\n" % names)

    def test_in_and_after(self):
        self.written_as("group x 1; test x cost 1 chance 1; test y cost 2 chance 2 in x after x;",
                        "group x 1;\ntest x cost 1 chance 1;\ntest y cost 2 chance 2 in x after x;\n")

    def test_groups_stand_ahead_of_tests(self):
        self.written_as("test t cost 1 chance 1; group h 2; test a cost 1 chance 1 in h; group g 3;",
                        "group h 2;\ngroup g 3;\ntest t cost 1 chance 1;\ntest a cost 1 chance 1 in h;\n")

    def test_names_of_every_form(self):
        name = "z_09_abc_12_"
        self.assertEqual(len(name), 12)
        self.written_as("group %s 10; test %s cost 100 chance 10 in %s;" % (name, name, name),
                        "group %s 10;\ntest %s cost 100 chance 10 in %s;\n" % (name, name, name))
        for name in ("abcdefghijkl", "mnopqrstuvwx", "yz0123456789", "a_"):
            self.written_as("group %s 1;" % name, "group %s 1;\n" % name)

    def test_the_greatest_plan(self):
        names = ["abcdefghijk%d" % number for number in range(7)]
        lines = ["group g%d 1000;\n" % number for number in range(3)]
        for number, name in enumerate(names):
            after = " after " + ", ".join(reversed(names[:number])) if number else ""
            lines.append("test %s cost 1000 chance 100 in g%d%s;\n" % (name, number % 3, after))
        form = "".join(lines)
        self.written_as(form.replace("\n", " "), form)

    def test_written_changes_nothing(self):
        found = ask_of(EXAMPLE, WRITTEN, WRITTEN)
        self.assertEqual(found[0], found[1])


if __name__ == "__main__":
    unittest.main()
