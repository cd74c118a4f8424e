"""Points 9 (forget) and 12 (files), and points 1 to 6 behind a forget."""

import unittest

from tests.helper import (
    ABSENT, COPY, FULL, JOIN, LACKS, NAME, TAKEN,
    action, ask, files, forget, get, key, last, listed, made, maker, put, reads, run, told, vain, would,
)


def numbered(count):
    return ["f%02d" % number for number in range(count)]


def puts(count):
    return [put(name, "x") for name in numbered(count)]


class Forget(unittest.TestCase):
    def test_a_source(self):
        answered = ask(put("a", "x"), put("aa", "y"), forget("a"), get("a"), maker("a"), files(), get("aa"))
        self.assertEqual(answered[2:], [[0], [ABSENT], [ABSENT], listed("aa"), told("y")])

    def test_a_made_file(self):
        answered = ask(
            put("a", "x"), action(COPY, "act", [], ["a"], ["o"]), run("act"), forget("o"), get("o"), maker("o"),
            files(), get("a"),
        )
        self.assertEqual(answered[3:], [[0], [ABSENT], [ABSENT], listed("a"), told("x")])

    def test_an_empty_file(self):
        self.assertEqual(ask(put("a", ""), forget("a"), get("a"))[1:], [[0], [ABSENT]])

    def test_refusals_in_order(self):
        for name in ("", "n" * 33, "a b", "n" * 10000):
            self.assertEqual(last(forget(name)), [NAME])
        for name in ("n", "n" * 32):
            self.assertEqual(last(forget(name)), [ABSENT])

    def test_a_second_time(self):
        self.assertEqual(ask(put("a"), forget("a"), forget("a"))[1:], [[0], [ABSENT]])

    def test_an_action_is_no_file(self):
        answered = ask(action(JOIN, "act", [""], [], ["o"]), forget("act"), forget("o"), run("act"))
        self.assertEqual(answered[1:], [[ABSENT], [ABSENT], [0, 1]])

    def test_an_action_of_the_same_name_stays(self):
        answered = ask(put("act", "x"), action(JOIN, "act", [""], [], ["o"]), forget("act"), run("act"), files())
        self.assertEqual(answered[2:], [[0], [0, 1], listed("o")])

    def test_a_refused_call_leaves_everything_as_it_was(self):
        before = [put("a", "x"), action(COPY, "act", [], ["a"], ["o"]), run("act")]
        behind = [files(), get("a"), maker("a"), get("o"), maker("o"), would("act")]
        answered = ask(*before, forget(""), forget("act"), forget("none"), *behind)
        self.assertEqual(answered[3:6], [[NAME], [ABSENT], [ABSENT]])
        self.assertEqual(answered[6:], ask(*before, *behind)[3:])


class BehindAForget(unittest.TestCase):
    def test_put_is_new_again(self):
        answered = ask(put("a", "x"), forget("a"), put("a", "y"), get("a"), maker("a"), put("a", "z"))
        self.assertEqual(answered[2:], [[1], told("y"), [1], [0]])

    def test_put_where_there_were_64(self):
        answered = ask(*puts(64), put("more"), forget("f07"), put("more"), put("yet"), get("f07"), get("more"))
        self.assertEqual(answered[64:], [[FULL], [0], [1], [FULL], [ABSENT], [0]])

    def test_a_made_file_that_was_forgotten_and_put_is_a_source(self):
        answered = ask(
            put("a", "x"), action(COPY, "act", [], ["a"], ["o"]), run("act"), forget("o"), put("o", "x"),
            maker("o"), run("act"), get("o"),
        )
        self.assertEqual(answered[4:], [[1], [1], [TAKEN], told("x")])

    def test_what_was_taken_by_a_source_is_made(self):
        answered = ask(
            put("a", "x"), put("o", "s"), action(COPY, "act", [], ["a"], ["o"]), run("act"), forget("o"),
            run("act"), get("o"), maker("o"),
        )
        self.assertEqual(answered[3:], [[TAKEN], [0], [0, 1], told("x"), told("act")])

    def test_a_source_of_the_same_bytes_that_was_forgotten_is_made(self):
        answered = ask(
            put("a", "x"), put("o", "x"), action(COPY, "act", [], ["a"], ["o"]), forget("o"), run("act"), run("act"),
        )
        self.assertEqual(answered[4:], [[0, 1], [0, 0]])

    def test_one_of_two_that_were_taken(self):
        answered = ask(
            put("a", "x"), put("b", "y"), put("o", "s"), put("p", "s"),
            action(COPY, "act", [], ["a", "b"], ["o", "p"]), forget("o"), run("act"), get("o"),
            forget("p"), run("act"),
        )
        self.assertEqual(answered[6:], [[TAKEN], [ABSENT], [0], [0, 2]])

    def test_a_run_where_there_were_64(self):
        act = action(COPY, "act", [], ["f00", "f01"], ["o", "p"])
        answered = ask(*puts(64), act, run("act"), forget("f63"), run("act"), forget("f62"))
        self.assertEqual(answered[65:], [[FULL], [0], [FULL], [0]])
        answered = ask(*puts(64), act, forget("f63"), forget("f62"), run("act"), files())
        self.assertEqual(answered[67:], [[0, 2], listed(*numbered(62), "o", "p")])

    def test_a_made_file_that_is_forgotten_makes_room(self):
        answered = ask(
            *puts(63), action(COPY, "act", [], ["f00"], ["o"]), run("act"), put("more"), forget("o"), put("more"),
            run("act"),
        )
        self.assertEqual(answered[64:], [[0, 1], [FULL], [0], [1], [FULL]])

    def test_an_input_that_is_gone(self):
        calls = (run, would, reads, vain, key)
        for call in calls:
            answered = ask(
                put("a", "x"), put("b", "y"), action(JOIN, "act", [""], ["a", "b"], ["o"]), forget("b"), call("act"),
                files(), put("b", "z"), would("act"),
            )
            self.assertEqual(answered[4:], [[LACKS], listed("a"), [1], made("xz")])

    def test_a_made_input_that_is_gone(self):
        answered = ask(
            put("a", "x"), action(COPY, "one", [], ["a"], ["b"]), action(COPY, "two", [], ["b"], ["c"]),
            run("one"), run("two"), forget("b"), run("two"), get("c"), maker("c"), run("one"), run("two"),
        )
        self.assertEqual(answered[6:], [[LACKS], told("x"), told("two"), [0, 1], [0, 0]])

    def test_what_was_made_of_a_forgotten_file_stays(self):
        answered = ask(
            put("a", "x"), action(COPY, "act", [], ["a"], ["o"]), run("act"), forget("a"), get("o"), maker("o"),
        )
        self.assertEqual(answered[3:], [[0], told("x"), told("act")])

    def test_how_many_outputs_are_made_or_changed(self):
        calls = [put("a", "x"), put("b", "y"), action(COPY, "act", [], ["a", "b"], ["o", "p"]), run("act")]
        self.assertEqual(last(*calls, run("act")), [0, 0])
        self.assertEqual(last(*calls, forget("o"), run("act")), [0, 1])
        self.assertEqual(last(*calls, forget("p"), run("act")), [0, 1])
        self.assertEqual(last(*calls, forget("o"), forget("p"), run("act")), [0, 2])
        self.assertEqual(last(*calls, forget("o"), put("b", "z"), run("act")), [0, 2])
        self.assertEqual(last(*calls, forget("o"), run("act"), run("act")), [0, 0])

    def test_maker_is_the_action_that_made_it_anew(self):
        answered = ask(
            action(JOIN, "one", [""], [], ["o"]), action(JOIN, "two", [""], [], ["o"]), run("one"), forget("o"),
            run("two"), maker("o"),
        )
        self.assertEqual(answered[4:], [[0, 1], told("two")])


class Files(unittest.TestCase):
    def test_none(self):
        self.assertEqual(ask(files(), action(JOIN, "act", [""], [], ["o"]), files())[::2], [[0], [0]])

    def test_the_very_numbers(self):
        self.assertEqual(last(put("bb"), put("a", "x"), files()), [2, 97, 10, 98, 98, 10])

    def test_the_order_of_texts(self):
        ordered = ["-", ".", "/", "0", "10", "9", "A", "Z", "_", "a", "a-", "a.", "a/b", "a0", "aA", "aa", "aaa", "ab", "b"]
        calls = [put(name) for name in reversed(ordered)]
        self.assertEqual(last(*calls, files()), listed(*ordered))

    def test_one_name_is_anothers_beginning(self):
        self.assertEqual(last(put("ab"), put("a"), put("abc"), put("b"), files()), listed("a", "ab", "abc", "b"))

    def test_sources_and_made_ones(self):
        answered = ask(
            put("m", "x"), action(COPY, "act", [], ["m"], ["z"]), action(COPY, "b", [], ["m"], ["a"]),
            files(), would("act"), files(), run("act"), run("b"), files(), run("act"), put("z", "y"), files(),
        )
        self.assertEqual(answered[3::2][:2], [listed("m")] * 2)
        self.assertEqual([answered[8], answered[11]], [listed("a", "m", "z")] * 2)

    def test_behind_a_forget(self):
        answered = ask(put("b"), put("a"), put("c"), forget("a"), files(), put("a"), forget("c"), files())
        self.assertEqual([answered[4], answered[7]], [listed("b", "c"), listed("a", "b")])

    def test_behind_refused_calls(self):
        calls = [put("", "x"), put("b", "x" * 4097), action(COPY, "act", [], ["a"], ["o"]), run("act"), files()]
        self.assertEqual(last(put("a", "x"), put("o", "y"), *calls), listed("a", "o"))

    def test_64_of_the_longest_names(self):
        names = ["%032d" % number for number in range(64)]
        calls = [put(name) for name in reversed(names)]
        self.assertEqual(last(*calls, put("more"), files()), listed(*names))

    def test_nothing_changes(self):
        self.assertEqual(ask(put("a", "x"), files(), files(), get("a"))[1:], [listed("a"), listed("a"), told("x")])


if __name__ == "__main__":
    unittest.main()
