"""The interface: how calls and answers stand in their lists, and the document's own examples."""

import unittest

from closedroom.room import UnknownCall, answers
from tests.helper import (
    ABSENT, CIRCLE, COPY, INCLUDE, JOIN, REPLACE, SORT, SPLIT, UNDECLARED, UPPER,
    action, ask, failure, get, last, made, maker, outcome, put, run, told, would,
)


def mixed_calls():
    calls = [
        put("a", "x\ny\n"), put("", "z"), action(UPPER, "up", [], ["a"], ["o"]), would("up"), run("up"), get("o"),
        maker("o"), maker("a"), action(COPY, "bad", [], ["a"], ["a"]), run("bad"), get("none"),
    ]
    return [number for call in calls for number in call]


class Interface(unittest.TestCase):
    def test_the_very_numbers(self):
        calls = [
            0, 1, 97, 2, 104, 105,
            1, 2, 1, 98, 0, 2, 1, 97, 2, 1, 99,
            3, 1, 98,
            2, 1, 98,
            4, 1, 99,
            5, 1, 99,
            5, 1, 97,
            4, 0,
        ]
        expected = [1, 1, 1, 1, 4, 0, 2, 72, 73, 2, 0, 1, 3, 0, 72, 73, 2, 0, 98, 1, 1, 1, -1]
        self.assertEqual(answers(calls), expected)

    def test_only_whole_numbers_are_given_back(self):
        answered = answers(mixed_calls())
        self.assertIs(type(answered), list)
        self.assertEqual({type(number) for number in answered}, {int})

    def test_what_is_handed_in_is_not_changed(self):
        calls = mixed_calls()
        before = list(calls)
        answers(calls)
        self.assertEqual(calls, before)

    def test_what_is_given_back_is_the_askers_own(self):
        calls = put("a", "x") + get("a")
        answers(calls).clear()
        self.assertEqual(answers(calls), [1, 1, 2, 0, 120])

    def test_nothing_is_kept(self):
        self.assertEqual(answers(mixed_calls()), answers(mixed_calls()))
        self.assertEqual(last(get("a")), [ABSENT])
        self.assertEqual(last(run("up")), [ABSENT])

    def test_seventy_calls_and_answers_of_many_numbers(self):
        calls = [put("a", "x" * 4096), action(COPY, "act", [], ["a"], ["o"])] + [would("act")] * 68
        self.assertEqual(ask(*calls)[2:], [made("x" * 4096)] * 68)

    def test_a_list_of_17000_numbers(self):
        calls = [put(name, "\n" * 4096) for name in "abcd"] + [action(JOIN, "act", [""], list("abcd"), ["o"])]
        calls.append(run("act"))
        self.assertLess(sum(len(call) for call in calls), 17000)
        self.assertEqual(last(*calls), failure(8))

    def test_a_number_that_is_no_call(self):
        for number in (-1, 12):
            self.assertRaises(UnknownCall, answers, put("a", "x") + [number])

    def test_what_is_put_later_is_seen_by_a_run_alone(self):
        answered = ask(
            put("a", "1"), action(COPY, "act", [], ["a"], ["o"]), run("act"), put("a", "2"), get("o"),
            would("act"), run("act"), get("o"),
        )
        self.assertEqual(answered[4:], [told("1"), made("2"), [0, 1], told("2")])


class Examples(unittest.TestCase):
    def test_include(self):
        a = ("a", "include b\nx")
        self.assertEqual(outcome(INCLUDE, [], [a, ("b", "y\n")]), made("y\nx\n"))
        self.assertEqual(outcome(INCLUDE, [], [a]), failure(UNDECLARED, "b"))
        alone = action(INCLUDE, "act", [], ["a"], ["o"])
        self.assertEqual(last(put(*a), put("b", "y\n"), alone, run("act")), failure(UNDECLARED, "b"))
        self.assertEqual(outcome(INCLUDE, [], [a, ("b", "include a")]), failure(CIRCLE))

    def test_split(self):
        self.assertEqual(outcome(SPLIT, [], [("a", "1\n---\n2\n")], ["o", "p"]), made("1\n", "2\n"))

    def test_replace(self):
        self.assertEqual(outcome(REPLACE, ["aa", "b"], [("a", "aaa")]), made("ba"))

    def test_sort(self):
        self.assertEqual(outcome(SORT, ["once"], [("a", "b\na\nb\n")]), made("a\nb\n"))


if __name__ == "__main__":
    unittest.main()
