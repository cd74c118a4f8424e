"""Point 10 (clashes)."""

import unittest

from tests.helper import (
    COPY, JOIN, LIMIT, TAKEN, action, ask, clashes, files, forget, get, last, listed, put, run,
)


def act(name, *outputs):
    return action(JOIN, name, [""], [], outputs)


def numbered(count):
    return ["o%03d" % number for number in range(count)]


def by_eight(names, prefix):
    """Actions that have these names as outputs, eight each."""
    return [act("%s%d" % (prefix, place), *names[place:place + 8]) for place in range(0, len(names), 8)]


class Clashes(unittest.TestCase):
    def test_none(self):
        self.assertEqual(last(clashes()), [0])
        self.assertEqual(last(put("a"), act("one", "o"), act("two", "p"), clashes()), [0])

    def test_an_output_of_two_actions(self):
        self.assertEqual(last(act("one", "o", "p"), act("two", "q", "o"), clashes()), [1, 111, 10])

    def test_an_output_of_three_actions_counts_once(self):
        self.assertEqual(last(act("one", "o"), act("two", "o"), act("three", "o"), clashes()), listed("o"))

    def test_an_output_that_is_a_sources_name(self):
        self.assertEqual(last(put("o"), act("one", "p", "o"), clashes()), listed("o"))
        self.assertEqual(last(act("one", "p", "o"), put("o"), clashes()), listed("o"))

    def test_both_at_once(self):
        self.assertEqual(last(put("o"), act("one", "o"), act("two", "o"), clashes()), listed("o"))
        calls = [put("o"), put("a"), act("one", "o", "b"), act("two", "b", "a"), act("three", "o")]
        self.assertEqual(last(*calls, clashes()), listed("a", "b", "o"))

    def test_a_made_file_is_no_clash(self):
        calls = [put("a", "x"), action(COPY, "one", [], ["a"], ["o"]), run("one")]
        self.assertEqual(last(*calls, clashes()), [0])
        self.assertEqual(last(*calls, run("one"), act("two", "p"), clashes()), [0])

    def test_a_file_that_another_action_made_is_no_clash(self):
        calls = [act("one", "o"), run("one"), act("one", "p"), act("two", "o")]
        self.assertEqual(last(*calls, clashes()), [0])

    def test_a_made_file_that_is_put(self):
        self.assertEqual(last(act("one", "o"), run("one"), put("o"), clashes()), listed("o"))

    def test_inputs_are_no_clash(self):
        answered = ask(
            put("a"), action(COPY, "one", [], ["a"], ["b"]), action(COPY, "two", [], ["a"], ["c"]),
            action(COPY, "three", [], ["b"], ["d"]), clashes(),
        )
        self.assertEqual(answered[4], [0])

    def test_names_of_actions_are_no_clash(self):
        self.assertEqual(last(put("one"), act("one", "two"), act("two", "o"), clashes()), [0])

    def test_an_action_that_was_told_anew(self):
        answered = ask(
            act("one", "o", "p"), act("two", "o", "q"), clashes(), act("two", "q"), clashes(),
            act("two", "p", "q"), clashes(), act("two", "o", "p"), clashes(),
        )
        self.assertEqual(answered[2::2], [listed("o"), [0], listed("p"), listed("o", "p")])

    def test_an_action_told_anew_as_it_was(self):
        self.assertEqual(last(act("one", "o"), act("one", "o"), clashes()), [0])

    def test_an_action_that_was_refused(self):
        answered = ask(act("one", "o"), act("two", "p"), act("two"), clashes(), act("three"), clashes())
        self.assertEqual(answered[2:], [[LIMIT], [0], [LIMIT], [0]])

    def test_behind_a_forget(self):
        calls = [put("o"), put("p"), act("one", "o", "p"), act("two", "p")]
        self.assertEqual(last(*calls, clashes()), listed("o", "p"))
        self.assertEqual(last(*calls, forget("o"), forget("p"), clashes()), listed("p"))
        self.assertEqual(last(*calls, forget("o"), put("o"), clashes()), listed("o", "p"))

    def test_a_forgotten_source_that_was_then_made(self):
        answered = ask(put("o"), act("one", "o"), run("one"), forget("o"), run("one"), clashes())
        self.assertEqual(answered[2:], [[TAKEN], [0], [0, 1], [0]])

    def test_a_made_file_that_was_forgotten(self):
        self.assertEqual(last(act("one", "o"), act("two", "o"), run("one"), forget("o"), clashes()), listed("o"))

    def test_the_order_of_texts(self):
        ordered = ["-", "0", "10", "9", "A", "_", "a", "a/", "aa", "b"]
        calls = by_eight(ordered[::-1], "x") + by_eight(ordered[::3] + ordered[1::3] + ordered[2::3], "y")
        self.assertEqual(last(*calls, clashes()), listed(*ordered))

    def test_sixteen_names_and_more(self):
        names = numbered(18)
        for count in (15, 16, 17, 18):
            some = names[:count][::-1]
            answered = last(*by_eight(some, "x"), *by_eight(some, "y"), clashes())
            self.assertEqual(answered, [count] + listed(*names[:min(count, 16)])[1:])

    def test_more_than_sixteen_by_sources_and_actions(self):
        names = numbered(24)
        calls = [put(name) for name in names[::2]] + by_eight(names, "x") + by_eight(names[1::2], "y")
        self.assertEqual(last(*calls, clashes()), [24] + listed(*names[:16])[1:])

    def test_as_many_as_there_can_be_by_actions(self):
        names = numbered(128)
        answered = last(*by_eight(names, "x"), *by_eight(names, "y"), clashes())
        self.assertEqual(answered, [128] + listed(*names[:16])[1:])

    def test_nothing_changes(self):
        answered = ask(put("o", "x"), act("one", "o"), clashes(), clashes(), files(), get("o"))
        self.assertEqual(answered[2:], [listed("o"), listed("o"), listed("o"), [0, 120]])


if __name__ == "__main__":
    unittest.main()
