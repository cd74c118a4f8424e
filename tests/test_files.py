"""Points 1 (put), 5 (get) and 6 (maker)."""

import unittest

from tests.helper import (
    ABSENT, COPY, FULL, JOIN, LONG, NAME, action, ask, get, last, maker, put, run, told,
)

ALL_SIGNS = "abcdefghijklmnopqrstuvwxyz", "ABCDEFGHIJKLMNOPQRSTUVWXYZ", "0123456789._-/"


def full_room():
    return [put("f%d" % number, "x") for number in range(64)]


class Put(unittest.TestCase):
    def test_new_is_1_and_known_is_0(self):
        self.assertEqual(ask(put("a", "x"), put("a", "y"), get("a")), [[1], [0], told("y")])

    def test_every_sign_of_a_name(self):
        for name in ALL_SIGNS:
            self.assertEqual(ask(put(name, "x"), get(name)), [[1], told("x")])

    def test_every_byte_alone_as_a_name(self):
        signs = "".join(ALL_SIGNS).encode()
        for byte in range(256):
            expected = [1] if byte in signs else [NAME]
            self.assertEqual(last(put([byte])), expected, byte)

    def test_a_wrong_byte_anywhere_in_a_name(self):
        for name in (" ab", "a b", "ab ", "ab\n", "a:b", "a\x00", "\xe4"):
            self.assertEqual(ask(put(name), put("a")), [[NAME], [1]])

    def test_lengths_of_names(self):
        self.assertEqual(last(put("")), [NAME])
        self.assertEqual(last(put("n")), [1])
        self.assertEqual(last(put("n" * 32)), [1])
        self.assertEqual(last(put("n" * 33)), [NAME])
        self.assertEqual(last(put("n" * 10000)), [NAME])

    def test_names_of_the_same_beginning_differ(self):
        self.assertEqual(ask(put("a", "1"), put("aa", "2"), get("a"), get("aa"))[2:], [told("1"), told("2")])

    def test_4096_bytes_and_4097(self):
        self.assertEqual(ask(put("a", "x" * 4096), get("a")), [[1], told("x" * 4096)])
        self.assertEqual(ask(put("a", "x" * 4097), get("a")), [[LONG], [ABSENT]])

    def test_too_long_leaves_the_file_as_it_was(self):
        answered = ask(
            put("a", "old"), action(COPY, "act", [], ["a"], ["b"]), run("act"),
            put("a", "x" * 4097), put("b", "x" * 10000), get("a"), maker("a"), get("b"), maker("b"),
        )
        self.assertEqual(answered[3:], [[LONG], [LONG], told("old"), [1], told("old"), told("act")])

    def test_every_byte_as_data(self):
        self.assertEqual(ask(put("a", range(256)), get("a"))[1], [0] + list(range(256)))

    def test_64_files_and_one_more(self):
        answered = ask(*full_room(), put("more", "y"), get("more"), put("f63", "z"), get("f63"))
        self.assertEqual(answered[:64], [[1]] * 64)
        self.assertEqual(answered[64:], [[FULL], [ABSENT], [0], told("z")])

    def test_the_order_of_refusals(self):
        self.assertEqual(last(put("", "x" * 4097)), [NAME])
        self.assertEqual(last(*full_room(), put(" ", "x" * 4097)), [NAME])
        self.assertEqual(last(*full_room(), put("more", "x" * 4097)), [LONG])

    def test_a_made_file_that_is_put_is_a_source(self):
        answered = ask(
            action(JOIN, "act", [""], [], ["o"]), run("act"), maker("o"), put("o", "s"), maker("o"), get("o"),
        )
        self.assertEqual(answered[2:], [told("act"), [0], [1], told("s")])


class Get(unittest.TestCase):
    def test_an_empty_file(self):
        self.assertEqual(ask(put("a", ""), get("a")), [[1], [0]])

    def test_refusals_in_order(self):
        self.assertEqual(ask(get(""), get("n" * 33), get("a b"), get("n" * 32)), [[NAME]] * 3 + [[ABSENT]])

    def test_an_action_is_no_file(self):
        self.assertEqual(last(action(JOIN, "act", [""], [], ["o"]), get("act")), [ABSENT])
        self.assertEqual(last(action(JOIN, "act", [""], [], ["o"]), get("o")), [ABSENT])


class Maker(unittest.TestCase):
    def test_a_source(self):
        self.assertEqual(ask(put("a", "x"), maker("a")), [[1], [1]])

    def test_refusals_in_order(self):
        self.assertEqual(ask(maker(""), maker("n" * 33), maker("a b"), maker("a")), [[NAME]] * 3 + [[ABSENT]])

    def test_an_action_is_no_file(self):
        self.assertEqual(last(action(JOIN, "act", [""], [], ["o"]), maker("act")), [ABSENT])

    def test_the_action_whose_run_made_it_last(self):
        answered = ask(
            action(JOIN, "one", [""], [], ["o"]), action(JOIN, "two", [""], [], ["o"]),
            run("one"), maker("o"), run("two"), maker("o"), run("one"), maker("o"),
        )
        self.assertEqual(answered[3::2], [told("one"), told("two"), told("one")])

    def test_the_action_need_not_be_as_it_was(self):
        answered = ask(
            action(JOIN, "one", [""], [], ["o"]), run("one"), action(JOIN, "one", [""], [], ["p"]), maker("o"),
        )
        self.assertEqual(answered[2:], [[0], told("one")])


if __name__ == "__main__":
    unittest.main()
