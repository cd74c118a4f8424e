"""The tools but include: their outcomes and each failure that the document tells of them."""

import unittest

from tests.helper import (
    ARGUMENT, COPY, COUNT, COUNTS, FAILED, FIND, INCLUDE, JOIN, NAMES, NOTHING, NUMBER, PICK, REPLACE, SORT,
    SPLIT, SUM, TAKE, TEST, TOO_LONG, UNDECLARED, UPPER, failure, made, outcome,
)

ANY = tuple(range(9))
SOME = tuple(range(1, 9))

# For each tool how many arguments, inputs and outputs it takes.
ASKED = {
    JOIN: ((1,), ANY, (1,)),
    UPPER: ((0,), (1,), (1,)),
    SORT: ((1,), (1,), (1,)),
    TAKE: ((1,), (1,), (1,)),
    FIND: ((1,), (1,), (1,)),
    REPLACE: ((2,), (1,), (1,)),
    INCLUDE: ((0,), SOME, (1,)),
    SPLIT: ((0,), (1,), SOME),
    TEST: ((0,), (2,), (1,)),
    COUNTS: ((0,), (1,), (1,)),
    NAMES: ((0,), ANY, (1,)),
    PICK: ((1,), ANY, (1,)),
    SUM: ((0,), ANY, (1,)),
}


def with_input(tool, arguments, data, outputs=("out",)):
    return outcome(tool, arguments, [("in", data)], outputs)


def is_count(tool, arguments, inputs, outputs):
    files = [("i%d" % number, "") for number in range(inputs)]
    answered = outcome(tool, [""] * arguments, files, ["o%d" % number for number in range(outputs)])
    return answered == failure(COUNT)


class Counts(unittest.TestCase):
    def test_every_count_of_every_tool_but_copy(self):
        for tool, (arguments_asked, inputs_asked, outputs_asked) in ASKED.items():
            for arguments in range(5):
                for inputs in range(9):
                    for outputs in SOME if tool == SPLIT else (1, 2, 8):
                        fits = arguments in arguments_asked and inputs in inputs_asked and outputs in outputs_asked
                        counts = (tool, arguments, inputs, outputs)
                        self.assertEqual(is_count(*counts), not fits, counts)

    def test_copy_asks_as_many_outputs_as_inputs(self):
        for arguments in range(5):
            for inputs in range(9):
                for outputs in SOME:
                    fits = arguments == 0 and inputs == outputs
                    self.assertEqual(is_count(COPY, arguments, inputs, outputs), not fits)

    def test_count_is_looked_at_before_all_else(self):
        two = [("a", "x"), ("b", "include c")]
        self.assertEqual(outcome(SORT, ["neither"], two), failure(COUNT))
        self.assertEqual(outcome(TAKE, ["x"], two), failure(COUNT))
        self.assertEqual(outcome(FIND, ["q"], two), failure(COUNT))
        self.assertEqual(outcome(REPLACE, [""], two[:1]), failure(COUNT))
        self.assertEqual(outcome(INCLUDE, [], two[1:], ["o", "p"]), failure(COUNT))
        self.assertEqual(outcome(SPLIT, [""], two[:1], ["o", "p"]), failure(COUNT))
        self.assertEqual(outcome(TEST, [], two, ["o", "p"]), failure(COUNT))
        self.assertEqual(outcome(PICK, ["c"], two, ["o", "p"]), failure(COUNT))
        self.assertEqual(outcome(PICK, ["", ""], two), failure(COUNT))
        self.assertEqual(outcome(SUM, [""], two), failure(COUNT))
        self.assertEqual(outcome(JOIN, ["", ""], [("a", "x" * 4096), ("b", "x" * 4096)]), failure(COUNT))


class Join(unittest.TestCase):
    def test_the_argument_between_two(self):
        files = [("b", "1"), ("a", ""), ("c", "3\n")]
        self.assertEqual(outcome(JOIN, [", "], files), made("1, , 3\n"))
        self.assertEqual(outcome(JOIN, [""], files), made("13\n"))

    def test_one_input_and_none(self):
        self.assertEqual(with_input(JOIN, ["-"], "x"), made("x"))
        self.assertEqual(outcome(JOIN, ["-"], []), made(""))

    def test_4096_bytes_and_4097(self):
        self.assertEqual(outcome(JOIN, ["-"], [("a", "x" * 4000), ("b", "y" * 95)]), made("x" * 4000 + "-" + "y" * 95))
        self.assertEqual(outcome(JOIN, ["-"], [("a", "x" * 4000), ("b", "y" * 96)]), failure(TOO_LONG))


class Copy(unittest.TestCase):
    def test_each_input(self):
        self.assertEqual(outcome(COPY, [], [("b", "1\n"), ("a", "")], ["o", "p"]), made("1\n", ""))


class Upper(unittest.TestCase):
    def test_every_byte(self):
        expected = [byte - 32 if 97 <= byte <= 122 else byte for byte in range(256)]
        self.assertEqual(with_input(UPPER, [], range(256)), made(expected))


class Sort(unittest.TestCase):
    def test_once_and_all(self):
        self.assertEqual(with_input(SORT, ["once"], "b\na\nb\n"), made("a\nb\n"))
        self.assertEqual(with_input(SORT, ["all"], "b\na\nb"), made("a\nb\nb\n"))

    def test_the_order_of_texts(self):
        self.assertEqual(with_input(SORT, ["all"], "b\nab\na\n\nB\n\xff\n10\n9\n"), made("\n10\n9\nB\na\nab\nb\n\xff\n"))

    def test_no_line_and_empty_lines(self):
        self.assertEqual(with_input(SORT, ["all"], ""), made(""))
        self.assertEqual(with_input(SORT, ["all"], "\n\n"), made("\n\n"))
        self.assertEqual(with_input(SORT, ["once"], "\n\n"), made("\n"))

    def test_other_arguments(self):
        for argument in ("", "ONCE", "once ", "al", "alll"):
            self.assertEqual(with_input(SORT, [argument], "a"), failure(ARGUMENT))

    def test_the_last_byte_10_may_be_one_too_many(self):
        self.assertEqual(with_input(SORT, ["all"], "x" * 4095), made("x" * 4095 + "\n"))
        self.assertEqual(with_input(SORT, ["all"], "x" * 4096), failure(TOO_LONG))
        self.assertEqual(with_input(SORT, ["neither"], "x" * 4096), failure(ARGUMENT))


class Take(unittest.TestCase):
    def test_the_first_lines(self):
        self.assertEqual(with_input(TAKE, ["2"], "c\nb\na\n"), made("c\nb\n"))
        self.assertEqual(with_input(TAKE, ["0002"], "c\nb\na\n"), made("c\nb\n"))
        self.assertEqual(with_input(TAKE, ["10"], "1\n2\n3\n4\n5\n6\n7\n8\n9\n10\n11"), made("1\n2\n3\n4\n5\n6\n7\n8\n9\n10\n"))

    def test_none_and_all_if_there_are_fewer(self):
        self.assertEqual(with_input(TAKE, ["0"], "c\nb"), made(""))
        self.assertEqual(with_input(TAKE, ["9999"], "c\n\nb"), made("c\n\nb\n"))
        self.assertEqual(with_input(TAKE, ["1"], ""), made(""))

    def test_what_is_no_number(self):
        for argument in ("", "00001", "10000", "-1", "+1", " 1", "1 ", "a", "1a", "/", ":", "\xb2"):
            self.assertEqual(with_input(TAKE, [argument], "a"), failure(ARGUMENT), argument)

    def test_long(self):
        self.assertEqual(with_input(TAKE, ["1"], "x" * 4096), failure(TOO_LONG))
        self.assertEqual(with_input(TAKE, ["0"], "x" * 4096), made(""))


class Find(unittest.TestCase):
    def test_lines_in_which_it_stands_somewhere(self):
        self.assertEqual(with_input(FIND, ["ab"], "ab\nxab\nabx\na b\nba\nxaabx\n"), made("ab\nxab\nabx\nxaabx\n"))

    def test_it_stands_at_the_very_end(self):
        self.assertEqual(with_input(FIND, ["b"], "a\nab"), made("ab\n"))

    def test_the_empty_text_stands_in_each_line(self):
        self.assertEqual(with_input(FIND, [""], "\na"), made("\na\n"))
        self.assertEqual(with_input(FIND, [""], ""), failure(NOTHING))

    def test_nothing(self):
        self.assertEqual(with_input(FIND, ["abc"], "ab\nc\n"), failure(NOTHING))
        self.assertEqual(with_input(FIND, ["b\nc"], "ab\nc\n"), failure(NOTHING))
        self.assertEqual(with_input(FIND, ["y"], "x" * 4096), failure(NOTHING))

    def test_long(self):
        self.assertEqual(with_input(FIND, ["x"], "x" * 4096), failure(TOO_LONG))


class Replace(unittest.TestCase):
    def test_from_the_left_without_overlap(self):
        self.assertEqual(with_input(REPLACE, ["aa", "b"], "aaa"), made("ba"))
        self.assertEqual(with_input(REPLACE, ["aa", "b"], "aaaa"), made("bb"))
        self.assertEqual(with_input(REPLACE, ["aba", "x"], "ababa"), made("xba"))

    def test_what_is_put_is_not_looked_through_again(self):
        self.assertEqual(with_input(REPLACE, ["ab", "a"], "abb"), made("ab"))
        self.assertEqual(with_input(REPLACE, ["a", "aa"], "aba"), made("aabaa"))

    def test_by_nothing_and_over_lines(self):
        self.assertEqual(with_input(REPLACE, ["x", ""], "axbx"), made("ab"))
        self.assertEqual(with_input(REPLACE, ["\n", ";"], "a\nb\n"), made("a;b;"))

    def test_nowhere(self):
        self.assertEqual(with_input(REPLACE, ["abc", "x"], "ab"), made("ab"))
        self.assertEqual(with_input(REPLACE, ["abc", "x"], ""), made(""))

    def test_an_empty_first_argument(self):
        self.assertEqual(with_input(REPLACE, ["", "x"], "a"), failure(ARGUMENT))
        self.assertEqual(with_input(REPLACE, ["", ""], ""), failure(ARGUMENT))

    def test_long(self):
        self.assertEqual(with_input(REPLACE, ["a", "b" * 64], "a" * 64), made("b" * 4096))
        self.assertEqual(with_input(REPLACE, ["a", "b" * 64], "a" * 64 + "c"), failure(TOO_LONG))
        self.assertEqual(with_input(REPLACE, ["a", ""], "a" * 4096), made(""))


class Split(unittest.TestCase):
    def test_pieces(self):
        self.assertEqual(with_input(SPLIT, [], "1\n---\n2", ["o", "p"]), made("1\n", "2\n"))
        self.assertEqual(with_input(SPLIT, [], "1\n2\n", ["o"]), made("1\n2\n"))

    def test_empty_pieces(self):
        self.assertEqual(with_input(SPLIT, [], "---\n", ["o", "p"]), made("", ""))
        self.assertEqual(with_input(SPLIT, [], "\n---\n---", ["o", "p", "q"]), made("\n", "", ""))
        self.assertEqual(with_input(SPLIT, [], "", ["o"]), made(""))

    def test_lines_that_part_nothing(self):
        self.assertEqual(with_input(SPLIT, [], "--\n----\n--- \n ---", ["o"]), made("--\n----\n--- \n ---\n"))

    def test_other_than_as_many_pieces(self):
        self.assertEqual(with_input(SPLIT, [], "1\n---\n2", ["o"]), failure(NOTHING))
        self.assertEqual(with_input(SPLIT, [], "1\n---\n2", ["o", "p", "q"]), failure(NOTHING))
        self.assertEqual(with_input(SPLIT, [], "", ["o", "p"]), failure(NOTHING))

    def test_eight_pieces(self):
        names = ["o%d" % number for number in range(8)]
        self.assertEqual(with_input(SPLIT, [], "---\n" * 7, names), made(*[""] * 8))

    def test_long_comes_at_the_end(self):
        self.assertEqual(with_input(SPLIT, [], "x" * 4096, ["o"]), failure(TOO_LONG))
        self.assertEqual(with_input(SPLIT, [], "x" * 4096, ["o", "p"]), failure(NOTHING))


class Test(unittest.TestCase):
    def test_the_same(self):
        self.assertEqual(outcome(TEST, [], [("a", "x\n"), ("b", "x\n")]), made("pass\n"))
        self.assertEqual(outcome(TEST, [], [("a", ""), ("b", "")]), made("pass\n"))

    def test_not_the_same(self):
        for data in ("x", "x\n\n", "", "y\n"):
            self.assertEqual(outcome(TEST, [], [("a", "x\n"), ("b", data)]), failure(FAILED))


class Count(unittest.TestCase):
    def test_lines_and_bytes(self):
        rows = (("", "0 0\n"), ("\n", "1 1\n"), ("a", "1 1\n"), ("a\n", "1 2\n"), ("a\nb", "2 3\n"), ("\n\nb\n", "3 4\n"))
        for data, expected in rows:
            self.assertEqual(with_input(COUNTS, [], data), made(expected))
        self.assertEqual(with_input(COUNTS, [], "\n" * 4096), made("4096 4096\n"))


class Names(unittest.TestCase):
    def test_in_the_order_of_inputs(self):
        self.assertEqual(outcome(NAMES, [], [("b", "1"), ("a", "2"), ("A/.-_9", "")]), made("b\na\nA/.-_9\n"))
        self.assertEqual(outcome(NAMES, [], []), made(""))


class Pick(unittest.TestCase):
    def test_the_input_of_that_name(self):
        self.assertEqual(outcome(PICK, ["b"], [("a", "1"), ("b", "2\n"), ("c", "3")]), made("2\n"))

    def test_undeclared(self):
        self.assertEqual(outcome(PICK, ["c"], [("a", "1"), ("b", "2")]), failure(UNDECLARED, "c"))
        self.assertEqual(outcome(PICK, ["n" * 32], []), failure(UNDECLARED, "n" * 32))

    def test_what_is_no_name(self):
        for argument in ("", "a b", "n" * 33, "a\n"):
            self.assertEqual(outcome(PICK, [argument], [("a", "1")]), failure(ARGUMENT))


class Sum(unittest.TestCase):
    def test_all_lines_of_all_inputs(self):
        self.assertEqual(outcome(SUM, [], [("a", "1\n02\n"), ("b", ""), ("c", "39")]), made("42\n"))
        self.assertEqual(outcome(SUM, [], []), made("0\n"))

    def test_nine_digits(self):
        self.assertEqual(with_input(SUM, [], "999999999\n999999999\n000000001\n"), made("1999999999\n"))
        self.assertEqual(with_input(SUM, [], "999999999\n" * 409), made("408999999591\n"))

    def test_what_is_no_number(self):
        for line in ("\n", "1234567890", "0000000001", "-1", "+1", " 1", "1 ", "1.0", "a", "1\n\n2"):
            self.assertEqual(outcome(SUM, [], [("a", "1\n"), ("b", line)]), failure(NUMBER), line)


if __name__ == "__main__":
    unittest.main()
