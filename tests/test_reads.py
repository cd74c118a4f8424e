"""Points 7 (reads) and 8 (vain): for each tool, without a failure and with each failure of it."""

import unittest

from tests.helper import (
    ABSENT, ARGUMENT, CIRCLE, COPY, COUNT, COUNTS, DEEP, FAILED, FIND, INCLUDE, JOIN, LACKS, NAME, NAMES, NOTHING,
    NUMBER, PICK, REPLACE, SORT, SPLIT, SUM, TAKE, TEST, TOO_LONG, UNDECLARED, UPPER,
    action, ask, declared, failure, files, get, last, listed, maker, put, reads, run, text, vain, would,
)

LONG_FILE = ("a", "x" * 4096)
TOOLS = range(14)


class Case(unittest.TestCase):
    def check(self, expected, tool, arguments, pairs, outputs=("out",), fails=None):
        """reads answers the names expected, vain the others in the inputs' order."""
        answered = ask(*declared(tool, arguments, pairs, outputs), would("act"), reads("act"), vain("act"))[-3:]
        if fails is None:
            self.assertEqual(answered[0][0], 0)
        else:
            self.assertEqual(answered[0], fails)
        self.assertEqual(answered[1], listed(*expected))
        self.assertEqual(answered[2], listed(*[name for name, data in pairs if name not in expected]))


class Refusals(unittest.TestCase):
    def test_names(self):
        for call in (reads, vain):
            for name in ("", "n" * 33, "a b", "n" * 10000):
                self.assertEqual(last(call(name)), [NAME])
            for name in ("n", "n" * 32):
                self.assertEqual(last(call(name)), [ABSENT])

    def test_a_file_is_no_action(self):
        for call in (reads, vain):
            self.assertEqual(last(put("a"), call("a")), [ABSENT])

    def test_lacks(self):
        for call, expected in ((reads, listed("a", "b")), (vain, listed())):
            answered = ask(
                put("a", "x"), action(JOIN, "act", [""], ["a", "b"], ["o"]),
                call("act"), files(), put("b", "y"), call("act"),
            )
            self.assertEqual(answered[2:4], [[LACKS], listed("a")])
            self.assertEqual(answered[5], expected)

    def test_lacks_comes_before_any_failure_and_though_nothing_would_be_read(self):
        for call in (reads, vain):
            self.assertEqual(last(action(UPPER, "act", ["x"], ["a", "b"], ["o"]), call("act")), [LACKS])
            self.assertEqual(last(action(NAMES, "act", [], ["a"], ["o"]), call("act")), [LACKS])
            self.assertEqual(last(put("a"), action(INCLUDE, "act", [], ["a", "b"], ["o"]), call("act")), [LACKS])

    def test_a_refused_call_leaves_everything_as_it_was(self):
        before = [put("a", "x"), action(COPY, "act", [], ["a"], ["o"]), run("act")]
        behind = [files(), get("a"), maker("a"), get("o"), maker("o"), would("act")]
        refused = [action(COPY, "more", [], ["q"], ["p"])]
        for call in (reads, vain):
            refused += [call(""), call("none"), call("more")]
        answered = ask(*before, *refused, *behind)
        self.assertEqual(answered[4:10], [[NAME], [ABSENT], [LACKS]] * 2)
        self.assertEqual(answered[10:], ask(*before, *behind)[3:])


class Calls(unittest.TestCase):
    def test_the_very_numbers(self):
        calls = [put("a", "x"), put("bb", "y"), action(PICK, "act", ["bb"], ["a", "bb"], ["o"])]
        self.assertEqual(last(*calls, reads("act")), [1, 98, 98, 10])
        self.assertEqual(last(*calls, vain("act")), [1, 97, 10])

    def test_nothing_changes(self):
        answered = ask(
            put("a", "x"), action(COPY, "act", [], ["a"], ["o"]), reads("act"), vain("act"), files(), get("o"),
        )
        self.assertEqual(answered[2:], [listed("a"), listed(), listed("a"), [ABSENT]])

    def test_neither_taken_nor_full_is_asked(self):
        puts = [put("f%d" % number, "x") for number in range(64)]
        calls = [action(COPY, "act", [], ["f1", "f0"], ["o", "f2"]), run("act"), reads("act"), vain("act")]
        self.assertEqual(ask(*puts, *calls)[-2:], [listed("f1", "f0"), listed()])

    def test_made_files_as_inputs(self):
        answered = ask(
            put("a", "b"), action(COPY, "one", [], ["a"], ["b"]), run("one"),
            action(PICK, "two", ["b"], ["a", "b"], ["o"]), reads("two"), vain("two"),
        )
        self.assertEqual(answered[-2:], [listed("b"), listed("a")])

    def test_they_hang_on_the_files_as_they_are_now(self):
        answered = ask(
            put("a", "include b"), put("b", ""), action(INCLUDE, "act", [], ["a", "b"], ["o"]), reads("act"),
            run("act"), put("a", "x"), reads("act"), vain("act"),
        )
        self.assertEqual([answered[3]] + answered[6:], [listed("a", "b"), listed("a"), listed("b")])

    def test_they_hang_on_the_action_as_it_is_now(self):
        answered = ask(
            put("a"), put("b"), action(NAMES, "act", [], ["a", "b"], ["o"]), reads("act"),
            action(JOIN, "act", [""], ["b", "a"], ["o"]), reads("act"), vain("act"),
        )
        self.assertEqual([answered[3]] + answered[5:], [listed(), listed("b", "a"), listed()])


class Count(Case):
    def test_nothing_is_read_with_too_many_arguments(self):
        for tool in TOOLS:
            self.check([], tool, ["1", "2", "3"], [("b", "1"), ("a", "1")], fails=failure(COUNT))
            self.check([], tool, ["1", "2", "3"], [("a", "1")], fails=failure(COUNT))

    def test_nothing_is_read_with_other_counts_of_inputs(self):
        two = [("b", "1"), ("a", "1")]
        rows = ((UPPER, 0), (SORT, 1), (TAKE, 1), (FIND, 1), (REPLACE, 2), (SPLIT, 0), (COUNTS, 0))
        for tool, arguments in rows:
            self.check([], tool, ["1"] * arguments, two, fails=failure(COUNT))
            self.check([], tool, ["1"] * arguments, [], fails=failure(COUNT))
        self.check([], TEST, [], two[:1], fails=failure(COUNT))
        self.check([], TEST, [], two + [("c", "1")], fails=failure(COUNT))
        self.check([], INCLUDE, [], [], fails=failure(COUNT))

    def test_nothing_is_read_with_other_counts_of_outputs(self):
        rows = (
            (JOIN, 1), (UPPER, 0), (SORT, 1), (TAKE, 1), (FIND, 1), (REPLACE, 2), (INCLUDE, 0), (COUNTS, 0),
            (NAMES, 0), (PICK, 1), (SUM, 0),
        )
        for tool, arguments in rows:
            self.check([], tool, ["a"] * arguments, [("a", "1")], ["o", "p"], failure(COUNT))
        self.check([], TEST, [], [("b", "1"), ("a", "1")], ["o", "p"], failure(COUNT))
        self.check([], COPY, [], [("b", "1"), ("a", "1")], ["o"], failure(COUNT))
        self.check([], COPY, [], [("b", "1"), ("a", "1")], ["o", "p", "q"], failure(COUNT))
        self.check([], COPY, [], [], ["o"], failure(COUNT))


class ReadAll(Case):
    def test_join(self):
        self.check(["b", "a", "c"], JOIN, ["-"], [("b", "1"), ("a", ""), ("c", "1")])
        self.check([], JOIN, ["-"], [])

    def test_join_that_is_too_long(self):
        self.check(["b", "a"], JOIN, ["-"], [("b", "1"), LONG_FILE], fails=failure(TOO_LONG))

    def test_copy(self):
        self.check(["b", "a"], COPY, [], [("b", "1"), ("a", "")], ["o", "p"])
        names = ["n%d" % number for number in range(8, 0, -1)]
        self.check(names, COPY, [], [(name, name) for name in names], ["o%d" % number for number in range(8)])

    def test_sum(self):
        self.check(["b", "a"], SUM, [], [("b", "1"), ("a", "2\n3")])
        self.check([], SUM, [], [])

    def test_sum_of_what_is_no_number(self):
        self.check(["b", "a", "c"], SUM, [], [("b", "1"), ("a", "x"), ("c", "2")], fails=failure(NUMBER))
        self.check(["b", "a"], SUM, [], [("b", "\n"), ("a", "1")], fails=failure(NUMBER))


class ReadFirst(Case):
    def test_each_tool_with_one_input(self):
        rows = (
            (UPPER, []), (SORT, ["all"]), (SORT, ["once"]), (TAKE, ["1"]), (TAKE, ["0"]), (FIND, ["x"]),
            (REPLACE, ["x", "y"]), (SPLIT, []), (COUNTS, []),
        )
        for tool, arguments in rows:
            self.check(["a"], tool, arguments, [("a", "x\nx\n")])

    def test_arguments_that_fail(self):
        for tool, arguments in ((SORT, ["neither"]), (TAKE, ["x"]), (REPLACE, ["", "y"])):
            self.check(["a"], tool, arguments, [("a", "x")], fails=failure(ARGUMENT))

    def test_nothing(self):
        self.check(["a"], FIND, ["q"], [("a", "x")], fails=failure(NOTHING))
        self.check(["a"], FIND, ["q"], [("a", "")], fails=failure(NOTHING))
        self.check(["a"], SPLIT, [], [("a", "x\n---\n")], fails=failure(NOTHING))

    def test_long(self):
        rows = ((SORT, ["all"]), (SORT, ["once"]), (TAKE, ["1"]), (FIND, ["x"]), (REPLACE, ["x", "yy"]), (SPLIT, []))
        for tool, arguments in rows:
            self.check(["a"], tool, arguments, [LONG_FILE], fails=failure(TOO_LONG))

    def test_test_reads_both(self):
        self.check(["b", "a"], TEST, [], [("b", "x"), ("a", "x")])
        self.check(["b", "a"], TEST, [], [("b", "x"), ("a", "y")], fails=failure(FAILED))


class ReadNone(Case):
    def test_names(self):
        self.check([], NAMES, [], [("b", "x"), ("aa", "y"), ("a", "")])
        self.check([], NAMES, [], [])


class Pick(Case):
    def test_the_one_that_it_tells(self):
        pairs = [("b", "x"), ("a", "y"), ("c", "z")]
        for name, data in pairs:
            self.check([name], PICK, [name], pairs)

    def test_undeclared(self):
        self.check([], PICK, ["q"], [("b", "x"), ("a", "y")], fails=failure(UNDECLARED, "q"))
        self.check([], PICK, ["q"], [], fails=failure(UNDECLARED, "q"))

    def test_undeclared_though_the_file_is_there(self):
        calls = [put("q", "x")] + declared(PICK, ["q"], [("a", "y")])
        self.assertEqual(ask(*calls, reads("act"), vain("act"))[-2:], [listed(), listed("a")])

    def test_what_is_no_name(self):
        for argument in ("", "a b", "n" * 33):
            self.check([], PICK, [argument], [("b", "x"), ("a", "y")], fails=failure(ARGUMENT))


class Include(Case):
    def include(self, expected, pairs, fails=None):
        self.check(expected, INCLUDE, [], pairs, fails=fails)

    def test_in0_alone(self):
        self.include(["a"], [("a", "")])
        self.include(["a"], [("a", "x\ninclude \n")])

    def test_the_order_in_which_files_are_first_come_to(self):
        pairs = [("a", "include d\ninclude b"), ("b", "x"), ("c", "y"), ("d", "include c")]
        self.include(["a", "d", "c", "b"], pairs)

    def test_a_file_that_is_included_twice(self):
        self.include(["a", "c", "b"], [("a", "include c\ninclude b\ninclude c"), ("b", "x"), ("c", "y")])
        self.include(["a", "c", "b"], [("a", "include c\ninclude b"), ("b", "include c"), ("c", "y")])
        self.include(["a", "b"], [("a", "include b\ninclude b"), ("b", "x")])

    def test_inputs_that_are_in_no_line(self):
        self.include(["m"], [("m", "x"), ("b", "include c"), ("a", "y")])
        self.include(["m", "a"], [("m", "include a"), ("c", "include q"), ("b", ""), ("a", "y")])

    def test_an_input_that_is_only_in_lines_that_are_not_put(self):
        self.include(["a"], [("a", "x"), ("b", "include c"), ("c", "")])

    def test_an_empty_file_is_come_to(self):
        self.include(["a", "b"], [("a", "include b"), ("b", "")])

    def test_undeclared(self):
        fails = failure(UNDECLARED, "q")
        self.include(["a"], [("a", "include q\ninclude b"), ("b", "x")], fails)
        self.include(["a", "b"], [("a", "include b\ninclude q\ninclude c"), ("b", "x"), ("c", "y")], fails)
        self.include(["a", "c"], [("a", "include c\ninclude b"), ("b", "x"), ("c", "include q")], fails)

    def test_circle(self):
        fails = failure(CIRCLE)
        self.include(["a"], [("a", "include a\ninclude b"), ("b", "x")], fails)
        self.include(["a", "b"], [("a", "include b"), ("b", "include a\ninclude c"), ("c", "x")], fails)
        self.include(["a", "c", "b"], [("a", "include c\ninclude b"), ("b", "include b"), ("c", "x")], fails)

    def test_deep_by_files_one_in_another(self):
        names = ["f%d" % number for number in range(8)]
        pairs = [(name, "include " + behind) for name, behind in zip(names, names[1:])] + [("f7", "x")]
        self.include(names[:7], pairs, failure(DEEP))
        self.include(names[:7], pairs[:6] + [("f6", "x"), ("f7", "y")])

    def test_deep_by_lines_that_were_followed(self):
        pairs = [("a", "include c\n" * 64 + "include b"), ("b", "x"), ("c", "")]
        self.include(["a", "c"], pairs, failure(DEEP))
        pairs = [("a", "include c\n" * 63 + "include b"), ("b", "x"), ("c", "")]
        self.include(["a", "c", "b"], pairs)

    def test_long(self):
        pairs = [("m", "include c\ninclude a"), ("b", ""), ("a", "x" * 4096), ("c", "")]
        self.include(["m", "c", "a"], pairs, failure(TOO_LONG))

    def test_all_eight(self):
        names = ["n" * length for length in (3, 1, 32, 2, 8, 31, 4, 7)]
        first = "".join("include %s\n" % name for name in reversed(names[1:]))
        pairs = [(names[0], first)] + [(name, "x") for name in names[1:]]
        self.include([names[0]] + names[:0:-1], pairs)

    def test_all_but_in0_are_vain(self):
        names = ["z", "n" * 32, "b", "ba", "B", "9", "a/b", "a"]
        calls = declared(INCLUDE, [], [(name, "") for name in names])
        self.assertEqual(last(*calls, vain("act")), [7] + text("\n".join(names[1:]) + "\n"))


if __name__ == "__main__":
    unittest.main()
