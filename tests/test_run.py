"""Points 3 (run) and 4 (would)."""

import unittest

from tests.helper import (
    ABSENT, COPY, COUNT, FULL, JOIN, LACKS, NAME, PICK, TAKEN, TEST, UNDECLARED, UPPER,
    action, ask, failure, get, last, made, maker, put, run, told, would,
)


class Refusals(unittest.TestCase):
    def test_names(self):
        for call in (run, would):
            for name in ("", "n" * 33, "a b", "n" * 10000):
                self.assertEqual(last(call(name)), [NAME])
            for name in ("n", "n" * 32):
                self.assertEqual(last(call(name)), [ABSENT])

    def test_a_file_is_no_action(self):
        for call in (run, would):
            self.assertEqual(last(put("a"), call("a")), [ABSENT])

    def test_lacks(self):
        for call in (run, would):
            answered = ask(
                put("a", "x"), action(JOIN, "act", [""], ["a", "b"], ["o"]),
                call("act"), get("o"), put("b", "y"), call("act"),
            )
            self.assertEqual(answered[2:4], [[LACKS], [ABSENT]])
            self.assertEqual(answered[5][0], 0)

    def test_lacks_comes_before_any_failure(self):
        for call in (run, would):
            self.assertEqual(last(action(UPPER, "act", ["x"], ["a", "b"], ["o"]), call("act")), [LACKS])

    def test_an_argument_that_names_a_file_is_no_input(self):
        for call in (run, would):
            answered = last(action(PICK, "act", ["b"], [], ["o"]), call("act"))
            self.assertEqual(answered, failure(UNDECLARED, "b"))


class Run(unittest.TestCase):
    def test_outputs_are_made(self):
        answered = ask(
            put("a", "x"), put("b", "y"), action(COPY, "act", [], ["a", "b"], ["o", "p"]),
            run("act"), get("o"), get("p"), maker("o"), maker("p"), maker("a"),
        )
        self.assertEqual(answered[3:], [[0, 2], told("x"), told("y"), told("act"), told("act"), [1]])

    def test_how_many_were_made_or_changed(self):
        answered = ask(
            put("a", "x"), put("b", "y"), action(COPY, "act", [], ["a", "b"], ["o", "p"]),
            run("act"), run("act"), put("b", "z"), run("act"), get("p"),
        )
        self.assertEqual([answered[3], answered[4], answered[6]], [[0, 2], [0, 0], [0, 1]])
        self.assertEqual(answered[7], told("z"))

    def test_eight_outputs(self):
        names = ["n%d" % number for number in range(8)]
        outputs = ["o%d" % number for number in range(8)]
        calls = [put(name, name) for name in names] + [action(COPY, "act", [], names, outputs), run("act")]
        self.assertEqual(last(*calls), [0, 8])
        self.assertEqual(last(*calls, get("o7")), told("n7"))

    def test_the_same_bytes_of_another_maker_are_no_change(self):
        answered = ask(
            put("a", "x"), action(COPY, "one", [], ["a"], ["o"]), action(COPY, "two", [], ["a"], ["o"]),
            run("one"), run("two"), maker("o"),
        )
        self.assertEqual(answered[3:], [[0, 1], [0, 0], told("two")])

    def test_an_empty_output_is_made(self):
        answered = ask(action(JOIN, "act", [""], [], ["o"]), run("act"), get("o"), run("act"))
        self.assertEqual(answered[1:], [[0, 1], [0], [0, 0]])

    def test_a_made_file_is_an_input(self):
        answered = ask(
            put("a", "x"), action(UPPER, "one", [], ["a"], ["b"]), action(JOIN, "two", ["-"], ["b", "a"], ["c"]),
            run("two"), run("one"), run("two"), get("c"),
        )
        self.assertEqual(answered[3:], [[LACKS], [0, 1], [0, 1], told("X-x")])

    def test_a_failure_changes_no_file(self):
        answered = ask(
            put("a", "x"), put("b", "x"), action(TEST, "act", [], ["a", "b"], ["o"]), run("act"),
            put("b", "y"), run("act"), get("o"), maker("o"),
        )
        self.assertEqual(answered[5:], [failure(7), told("pass\n"), told("act")])

    def test_a_failure_makes_no_file(self):
        answered = ask(put("a"), action(UPPER, "act", [], [], ["o"]), run("act"), get("o"))
        self.assertEqual(answered[2:], [failure(COUNT), [ABSENT]])

    def test_undeclared_tells_the_name(self):
        answered = ask(put("a"), put("b"), action(PICK, "act", ["b"], ["a"], ["o"]), run("act"))
        self.assertEqual(answered[3], failure(UNDECLARED, "b"))

    def test_taken_leaves_everything_as_it_was(self):
        answered = ask(
            put("a", "x"), put("b", "y"), put("p", "s"), action(COPY, "act", [], ["a", "b"], ["o", "p"]),
            run("act"), get("o"), get("p"), maker("p"),
        )
        self.assertEqual(answered[4:], [[TAKEN], [ABSENT], told("s"), [1]])

    def test_a_source_of_the_same_bytes_is_taken(self):
        self.assertEqual(last(put("a"), put("o"), action(COPY, "act", [], ["a"], ["o"]), run("act")), [TAKEN])

    def test_a_failure_comes_before_taken(self):
        self.assertEqual(last(put("o"), action(UPPER, "act", [], [], ["o"]), run("act")), failure(COUNT))

    def test_64_files_and_one_more(self):
        files = [put("f%d" % number, "x") for number in range(63)]
        calls = files + [
            action(COPY, "two", [], ["f0", "f1"], ["o", "p"]), action(COPY, "one", [], ["f0"], ["o"]),
            run("two"), get("o"), run("one"), run("two"), get("p"), run("one"),
        ]
        self.assertEqual(ask(*calls)[65:], [[FULL], [ABSENT], [0, 1], [FULL], [ABSENT], [0, 0]])

    def test_full_leaves_a_made_file_as_it_was(self):
        files = [put("f%d" % number, "x") for number in range(63)]
        calls = files + [
            action(COPY, "one", [], ["f0"], ["o"]), run("one"), put("f0", "y"),
            action(COPY, "two", [], ["f0", "f1"], ["o", "p"]), run("two"), get("o"), maker("o"),
        ]
        self.assertEqual(ask(*calls)[-3:], [[FULL], told("x"), told("one")])

    def test_a_failure_and_taken_come_before_full(self):
        files = [put("f%d" % number, "x") for number in range(64)]
        taken = action(COPY, "act", [], ["f0", "f1"], ["o", "f2"])
        failing = action(UPPER, "act", [], ["f0", "f1"], ["o"])
        self.assertEqual(last(*files, taken, run("act")), [TAKEN])
        self.assertEqual(last(*files, failing, run("act")), failure(COUNT))

    def test_outputs_taken_over_by_another_action(self):
        answered = ask(
            put("a", "x"), action(COPY, "one", [], ["a"], ["o"]), action(UPPER, "two", [], ["a"], ["o"]),
            run("one"), run("two"), get("o"), maker("o"),
        )
        self.assertEqual(answered[3:], [[0, 1], [0, 1], told("X"), told("two")])


class Would(unittest.TestCase):
    def test_each_output_behind_its_length(self):
        answered = ask(
            put("a", "xyz"), put("b", ""), action(COPY, "act", [], ["a", "b"], ["o", "p"]), would("act"),
        )
        self.assertEqual(answered[3], [0, 3, 120, 121, 122, 0])

    def test_nothing_changes(self):
        answered = ask(
            put("a", "x"), action(COPY, "act", [], ["a"], ["o"]), would("act"), get("o"),
            run("act"), put("a", "y"), would("act"), get("o"),
        )
        self.assertEqual(answered[2:], [made("x"), [ABSENT], [0, 1], [0], made("y"), told("x")])

    def test_a_failure_as_run(self):
        answered = ask(
            put("a"), action(PICK, "act", ["b"], ["a"], ["o"]), would("act"),
            action(PICK, "act", [], ["a"], ["o"]), would("act"),
        )
        self.assertEqual([answered[2], answered[4]], [failure(UNDECLARED, "b"), failure(COUNT)])

    def test_neither_taken_nor_full_is_asked(self):
        files = [put("f%d" % number, "x") for number in range(64)]
        calls = [action(COPY, "act", [], ["f0", "f1"], ["o", "f2"]), would("act"), get("o"), get("f2")]
        self.assertEqual(ask(*files, *calls)[65:], [made("x", "x"), [ABSENT], told("x")])

    def test_4096_bytes(self):
        data = "x" * 4096
        self.assertEqual(last(put("a", data), action(COPY, "act", [], ["a"], ["o"]), would("act")), made(data))


if __name__ == "__main__":
    unittest.main()
