"""The interface: how calls and answers stand in their lists, and the document's own examples."""

import unittest

from closedroom.room import UnknownCall, answers
from tests.helper import (
    ABSENT, CIRCLE, COPY, INCLUDE, JOIN, REPLACE, SORT, SPLIT, UNDECLARED, UPPER,
    action, ask, clashes, failure, files, forget, get, key, last, made, maker, outcome, put, reads, run, told, vain,
    would,
)


def mixed_calls():
    calls = [
        put("a", "x\ny\n"), put("", "z"), action(UPPER, "up", [], ["a"], ["o"]), would("up"), run("up"), get("o"),
        maker("o"), maker("a"), action(COPY, "bad", [], ["a"], ["a"]), run("bad"), get("none"),
        reads("up"), vain("up"), key("up"), reads("none"), vain(""), key("none"), put("o"), clashes(), files(),
        forget("a"), forget("a"), files(), run("up"),
    ]
    return [number for call in calls for number in call]


class Watched(list):
    """A list that tells when it is changed, also if it is changed back."""

    def changed(self, *args, **named):
        raise AssertionError("what was handed in was changed")

    append = extend = insert = pop = remove = clear = sort = reverse = changed
    __setitem__ = __delitem__ = __iadd__ = __imul__ = changed


class Interface(unittest.TestCase):
    def test_the_very_numbers(self):
        calls = [
            0, 1, 97, 2, 104, 105,
            1, 2, 1, 98, 0, 2, 1, 97, 2, 1, 99,
            3, 1, 98,
            2, 1, 98,
            4, 1, 99,
            5, 1, 99,
            5, 1, 97,
            4, 0,
        ]
        expected = [1, 1, 1, 1, 4, 0, 2, 72, 73, 2, 0, 1, 3, 0, 72, 73, 2, 0, 98, 1, 1, 1, -1]
        self.assertEqual(answers(calls), expected)

    def test_the_very_numbers_of_calls_6_to_11(self):
        calls = [
            0, 1, 97, 2, 104, 105,
            0, 1, 99, 0,
            1, 12, 1, 98, 2, 1, 97, 4, 1, 99, 1, 97, 2, 1, 100,
            6, 1, 98,
            7, 1, 98,
            10, 1, 98,
            0, 1, 100, 0,
            9,
            11,
            8, 1, 100,
            9,
            11,
            8, 1, 100,
            6, 0,
            7, 1, 97,
        ]
        expected = [
            1, 1,
            1, 1,
            1, 1,
            3, 1, 97, 10,
            3, 1, 99, 10,
            24, 0, 49, 50, 58, 49, 58, 49, 58, 97, 50, 58, 49, 58, 99, 48, 58, 49, 58, 97, 50, 58, 104, 105, 49,
            1, 1,
            3, 1, 100, 10,
            7, 3, 97, 10, 99, 10, 100, 10,
            1, 0,
            1, 0,
            5, 2, 97, 10, 99, 10,
            1, -8,
            1, -1,
            1, -8,
        ]
        self.assertEqual(answers(calls), expected)

    def test_clashes_and_files_are_their_number_alone(self):
        self.assertEqual(answers([9, 11, 9, 11]), [1, 0] * 4)

    def test_only_whole_numbers_are_given_back(self):
        answered = answers(mixed_calls())
        self.assertIs(type(answered), list)
        self.assertEqual({type(number) for number in answered}, {int})

    def test_what_is_handed_in_is_not_changed(self):
        calls = mixed_calls()
        before = list(calls)
        answers(calls)
        self.assertEqual(calls, before)
        self.assertEqual(answers(Watched(calls)), answers(calls))

    def test_what_is_given_back_is_the_askers_own(self):
        calls = put("a", "x") + get("a")
        answers(calls).clear()
        self.assertEqual(answers(calls), [1, 1, 2, 0, 120])

    def test_nothing_is_kept(self):
        self.assertEqual(answers(mixed_calls()), answers(mixed_calls()))
        self.assertEqual(last(get("a")), [ABSENT])
        self.assertEqual(last(run("up")), [ABSENT])
        self.assertEqual(ask(clashes(), files()), [[0], [0]])

    def test_seventy_calls_and_answers_of_many_numbers(self):
        calls = [put("a", "x" * 4096), action(COPY, "act", [], ["a"], ["o"])] + [would("act")] * 68
        self.assertEqual(ask(*calls)[2:], [made("x" * 4096)] * 68)

    def test_seventy_calls_of_clashes_and_files(self):
        self.assertEqual(ask(*[clashes(), files()] * 35), [[0]] * 70)

    def test_answers_that_pass_a_million_numbers_together(self):
        names = ["o%d" % number for number in range(8)]
        calls = [put("a", "x" * 4096), action(COPY, "one", [], ["a"], ["b"]), run("one")]
        for name in names:
            calls += [action(COPY, "one", [], ["a"], [name]), run("one")]
        calls.append(action(COPY, "act", [], names, ["p%d" % number for number in range(8)]))
        answered = ask(*calls, *[would("act"), key("act")] * 25)
        self.assertGreater(sum(len(answer) for answer in answered), 10 ** 6)
        self.assertEqual(answered[-2], made(*["x" * 4096] * 8))

    def test_a_list_of_17000_numbers(self):
        calls = [put(name, "\n" * 4096) for name in "abcd"] + [action(JOIN, "act", [""], list("abcd"), ["o"])]
        calls.append(run("act"))
        self.assertLess(sum(len(call) for call in calls), 17000)
        self.assertEqual(last(*calls), failure(8))

    def test_a_number_that_is_no_call(self):
        for number in (-1, 12):
            self.assertRaises(UnknownCall, answers, put("a", "x") + [number])

    def test_what_is_put_later_is_seen_by_a_run_alone(self):
        answered = ask(
            put("a", "1"), action(COPY, "act", [], ["a"], ["o"]), run("act"), put("a", "2"), get("o"),
            would("act"), run("act"), get("o"),
        )
        self.assertEqual(answered[4:], [told("1"), made("2"), [0, 1], told("2")])


class Examples(unittest.TestCase):
    def test_include(self):
        a = ("a", "include b\nx")
        self.assertEqual(outcome(INCLUDE, [], [a, ("b", "y\n")]), made("y\nx\n"))
        self.assertEqual(outcome(INCLUDE, [], [a]), failure(UNDECLARED, "b"))
        alone = action(INCLUDE, "act", [], ["a"], ["o"])
        self.assertEqual(last(put(*a), put("b", "y\n"), alone, run("act")), failure(UNDECLARED, "b"))
        self.assertEqual(outcome(INCLUDE, [], [a, ("b", "include a")]), failure(CIRCLE))

    def test_split(self):
        self.assertEqual(outcome(SPLIT, [], [("a", "1\n---\n2\n")], ["o", "p"]), made("1\n", "2\n"))

    def test_replace(self):
        self.assertEqual(outcome(REPLACE, ["aa", "b"], [("a", "aaa")]), made("ba"))

    def test_sort(self):
        self.assertEqual(outcome(SORT, ["once"], [("a", "b\na\nb\n")]), made("a\nb\n"))

    def test_key(self):
        calls = [put("a", "hi\n"), action(UPPER, "act", [], ["a"], ["o"])]
        self.assertEqual(last(*calls, key("act")), told("2:0:1:1:a3:hi\n1"))


if __name__ == "__main__":
    unittest.main()
