"""The tool include: its outcomes, and which of its failures comes first."""

import unittest

from tests.helper import (
    CIRCLE, DEEP, INCLUDE, TOO_LONG, UNDECLARED, action, ask, failure, made, outcome, put, run, would,
)


def chain(length, end=""):
    """in0 and so many files one in another, the innermost of which has the lines end."""
    names = ["f%d" % number for number in range(length + 1)]
    files = [(name, "include " + behind) for name, behind in zip(names, names[1:])]
    return files + [(names[-1], end)]


def include(*files):
    return outcome(INCLUDE, [], files)


class Lines(unittest.TestCase):
    def test_lines_without_an_include(self):
        self.assertEqual(include(("a", "")), made(""))
        self.assertEqual(include(("a", "x")), made("x\n"))
        self.assertEqual(include(("a", "\nx\n")), made("\nx\n"))

    def test_included_lines_stand_in_the_place_of_the_line(self):
        self.assertEqual(include(("a", "1\ninclude b\n2"), ("b", "x\ny")), made("1\nx\ny\n2\n"))

    def test_nested_files_and_a_file_more_than_once(self):
        files = (("a", "include b\ninclude c\ninclude b"), ("b", "b\ninclude c\nB"), ("c", "c"))
        self.assertEqual(include(*files), made("b\nc\nB\nc\nb\nc\nB\n"))

    def test_an_empty_file_puts_no_line(self):
        self.assertEqual(include(("a", "1\ninclude b\n2"), ("b", "")), made("1\n2\n"))

    def test_an_input_that_is_not_included(self):
        self.assertEqual(include(("a", "1"), ("b", "include q")), made("1\n"))

    def test_lines_that_are_like_others(self):
        rows = (
            "include ", "include", "include  b", "include b ", " include b", "Include b", "include\tb", "includeb",
            "include b\r", "include " + "n" * 33, "include b c", "xinclude b",
        )
        for line in rows:
            self.assertEqual(include(("a", line), ("b", "x")), made(line + "\n"), line)

    def test_names_of_every_length(self):
        for name in ("n", "n" * 32):
            self.assertEqual(include(("a", "include " + name), (name, "x")), made("x\n"))
            self.assertEqual(include(("a", "include " + name)), failure(UNDECLARED, name))


class Undeclared(unittest.TestCase):
    def test_whether_the_file_is_there_or_not(self):
        calls = [put("a", "x\ninclude b"), action(INCLUDE, "act", [], ["a"], ["o"]), run("act"), would("act")]
        expected = [failure(UNDECLARED, "b")] * 2
        self.assertEqual(ask(*calls)[-2:], expected)
        self.assertEqual(ask(put("b", "y"), *calls)[-2:], expected)

    def test_within_another_file(self):
        self.assertEqual(include(("a", "include b"), ("b", "include out")), failure(UNDECLARED, "out"))

    def test_the_first_in_the_order_of_lines(self):
        self.assertEqual(include(("a", "include b\ninclude q"), ("b", "include p")), failure(UNDECLARED, "p"))
        self.assertEqual(include(("a", "include q\ninclude a")), failure(UNDECLARED, "q"))
        self.assertEqual(include(("a", "include a\ninclude q")), failure(CIRCLE))


class Circle(unittest.TestCase):
    def test_the_name_of_in0(self):
        self.assertEqual(include(("a", "include a")), failure(CIRCLE))
        self.assertEqual(include(("a", "include b"), ("b", "include a")), failure(CIRCLE))

    def test_a_file_within_whose_lines_it_stands(self):
        self.assertEqual(include(("a", "include b"), ("b", "include b")), failure(CIRCLE))
        files = (("a", "include b"), ("b", "include c"), ("c", "include b"))
        self.assertEqual(include(*files), failure(CIRCLE))

    def test_a_file_that_has_ended_is_no_circle(self):
        files = (("a", "include b\ninclude c"), ("b", "x"), ("c", "include b"))
        self.assertEqual(include(*files), made("x\nx\n"))


class Deep(unittest.TestCase):
    def test_six_files_one_in_another_and_seven(self):
        self.assertEqual(include(*chain(6, "x")), made("x\n"))
        self.assertEqual(include(*chain(7, "x")), failure(DEEP))

    def test_depth_is_counted_from_each_line_anew(self):
        files = chain(6, "x")
        files[0] = ("f0", "include f1\ninclude f1\ninclude f2")
        self.assertEqual(include(*files), made("x\nx\nx\n"))

    def test_undeclared_and_circle_come_before_deep(self):
        self.assertEqual(include(*chain(6, "include q")), failure(UNDECLARED, "q"))
        self.assertEqual(include(*chain(6, "include f0")), failure(CIRCLE))
        self.assertEqual(include(*chain(6, "include f6")), failure(CIRCLE))
        self.assertEqual(include(*chain(6, "include f7"), ("f7", "")), failure(DEEP))

    def test_64_lines_followed_and_65(self):
        self.assertEqual(include(("a", "include b\n" * 64), ("b", "x")), made("x\n" * 64))
        self.assertEqual(include(("a", "include b\n" * 65), ("b", "x")), failure(DEEP))
        self.assertEqual(include(("a", "include b\n" * 65), ("b", "")), failure(DEEP))

    def test_lines_followed_within_others_are_counted(self):
        seven = "include c\n" * 7
        self.assertEqual(include(("a", "include b\n" * 8), ("b", seven), ("c", "x")), made("x\n" * 56))
        self.assertEqual(include(("a", "include b\n" * 8 + "include c"), ("b", seven), ("c", "x")), failure(DEEP))

    def test_the_lines_within_which_it_stands_are_counted(self):
        self.assertEqual(include(("a", "include b"), ("b", "include c\n" * 63), ("c", "x")), made("x\n" * 63))
        self.assertEqual(include(("a", "include b"), ("b", "include c\n" * 64), ("c", "x")), failure(DEEP))

    def test_what_is_like_other_lines_is_not_counted(self):
        self.assertEqual(include(("a", "include b\n" * 64 + "include \n"), ("b", "")), made("include \n"))

    def test_undeclared_and_circle_at_the_65th_line(self):
        self.assertEqual(include(("a", "include b\n" * 64 + "include q"), ("b", "x")), failure(UNDECLARED, "q"))
        self.assertEqual(include(("a", "include b\n" * 64 + "include a"), ("b", "x")), failure(CIRCLE))
        self.assertEqual(include(("a", "include b\n" * 65 + "include q"), ("b", "x")), failure(DEEP))


class Long(unittest.TestCase):
    def test_4096_bytes_and_more(self):
        self.assertEqual(include(("a", "include b\n" * 2), ("b", "x" * 2047)), made(("x" * 2047 + "\n") * 2))
        self.assertEqual(include(("a", "include b\n" * 2), ("b", "x" * 2048)), failure(TOO_LONG))
        self.assertEqual(include(("a", "x" * 4096)), failure(TOO_LONG))

    def test_long_comes_at_the_end(self):
        long = "x" * 4096
        self.assertEqual(include(("a", "include b\ninclude b\ninclude q"), ("b", long)), failure(UNDECLARED, "q"))
        self.assertEqual(include(("a", "include b\ninclude b\ninclude a"), ("b", long)), failure(CIRCLE))
        self.assertEqual(include(("a", "include b\n" * 65), ("b", long)), failure(DEEP))
        self.assertEqual(include(("a", "include b\n" * 64), ("b", long)), failure(TOO_LONG))


if __name__ == "__main__":
    unittest.main()
