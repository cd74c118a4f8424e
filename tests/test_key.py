"""Point 11 (key)."""

import unittest

from tests.helper import (
    ABSENT, COPY, COUNT, INCLUDE, JOIN, LACKS, NAME, PICK, REPLACE, SUM, UPPER,
    action, ask, declared, failure, files, forget, get, key, last, listed, maker, put, run, text, told, would,
)


def key_of(tool, arguments, pairs, outputs=("out",)):
    return last(*declared(tool, arguments, pairs, outputs), key("act"))


class Refusals(unittest.TestCase):
    def test_names(self):
        for name in ("", "n" * 33, "a b", "n" * 10000):
            self.assertEqual(last(key(name)), [NAME])
        for name in ("n", "n" * 32):
            self.assertEqual(last(key(name)), [ABSENT])

    def test_a_file_is_no_action(self):
        self.assertEqual(last(put("a"), key("a")), [ABSENT])

    def test_lacks(self):
        answered = ask(
            put("a", "x"), action(JOIN, "act", [""], ["a", "b"], ["o"]), key("act"), put("b", ""), key("act"),
            forget("a"), key("act"),
        )
        self.assertEqual(answered[2::2], [[LACKS], told("0:1:0:2:1:a1:x1:b0:1"), [LACKS]])

    def test_a_refused_call_leaves_everything_as_it_was(self):
        before = [put("a", "x"), action(COPY, "act", [], ["a"], ["o"]), run("act")]
        behind = [files(), get("a"), maker("a"), get("o"), maker("o"), would("act")]
        refused = [action(COPY, "more", [], ["q"], ["p"]), key(""), key("none"), key("more")]
        answered = ask(*before, *refused, *behind)
        self.assertEqual(answered[4:7], [[NAME], [ABSENT], [LACKS]])
        self.assertEqual(answered[7:], ask(*before, *behind)[3:])


class Key(unittest.TestCase):
    def test_the_documents_example(self):
        self.assertEqual(key_of(UPPER, [], [("a", "hi\n")]), told("2:0:1:1:a3:hi\n1"))

    def test_no_argument_and_several(self):
        self.assertEqual(key_of(JOIN, [], [("a", "x")]), told("0:0:1:1:a1:x1"))
        self.assertEqual(key_of(JOIN, [", "], [("a", "x")]), told("0:1:2:, 1:1:a1:x1"))
        self.assertEqual(key_of(REPLACE, ["ab", ""], [("a", "x")]), told("6:2:2:ab0:1:1:a1:x1"))
        self.assertEqual(key_of(JOIN, ["", "b", "", "dd"], [("a", "x")]), told("0:4:0:1:b0:2:dd1:1:a1:x1"))

    def test_arguments_in_their_order(self):
        self.assertEqual(key_of(REPLACE, ["b", "a"], [("a", "x")]), told("6:2:1:b1:a1:1:a1:x1"))

    def test_colons_and_digits(self):
        self.assertEqual(key_of(JOIN, ["1:a", "::"], [("7", "2:0:")]), told("0:2:3:1:a2:::1:1:74:2:0:1"))
        self.assertEqual(key_of(JOIN, [":"], [("1", ":"), ("22", "1")]), told("0:1:1::2:1:11::2:221:11"))

    def test_what_would_run_together_is_kept_apart(self):
        self.assertNotEqual(key_of(REPLACE, ["a", "bc"], [("a", "x")]), key_of(REPLACE, ["ab", "c"], [("a", "x")]))
        self.assertNotEqual(key_of(JOIN, [""], [("a", "bx")]), key_of(JOIN, [""], [("ab", "x")]))
        self.assertNotEqual(
            key_of(JOIN, [""], [("a", "x"), ("b", "y")]), key_of(JOIN, [""], [("a", "x1:b1:y")]),
        )

    def test_an_empty_file(self):
        self.assertEqual(key_of(UPPER, [], [("a", "")]), told("2:0:1:1:a0:1"))

    def test_several_inputs_in_their_order(self):
        self.assertEqual(key_of(SUM, [], [("b", "1\n"), ("a", ""), ("cc", "23")]), told("13:0:3:1:b2:1\n1:a0:2:cc2:231"))

    def test_no_input(self):
        self.assertEqual(key_of(SUM, [], []), told("13:0:0:1"))
        self.assertEqual(key_of(PICK, ["q"], []), told("12:1:1:q0:1"))

    def test_how_many_outputs(self):
        names = ["o%d" % number for number in range(8)]
        self.assertEqual(key_of(COPY, [], [("a", "x")], names), told("1:0:1:1:a1:x8"))
        self.assertEqual(key_of(COPY, [], [("a", "x")], names[:2]), told("1:0:1:1:a1:x2"))

    def test_every_tool(self):
        for tool in range(14):
            self.assertEqual(key_of(tool, [], []), told("%d:0:0:1" % tool))

    def test_every_byte(self):
        data = list(range(256))
        expected = text("0:1:64:") + data[192:] + text("1:1:a256:") + data + text("1")
        self.assertEqual(key_of(JOIN, [data[192:]], [("a", data)]), [0] + expected)

    def test_its_own_name_and_those_of_outputs_do_not_stand_in_it(self):
        answered = ask(
            put("a", "x"), action(COPY, "one", [], ["a"], ["o"]), action(COPY, "another", [], ["a"], ["other"]),
            key("one"), key("another"),
        )
        self.assertEqual(answered[3:], [told("1:0:1:1:a1:x1")] * 2)

    def test_an_action_that_fails(self):
        self.assertEqual(
            ask(put("a"), action(UPPER, "act", ["x"], ["a"], ["o"]), would("act"), key("act"))[2:],
            [failure(COUNT), told("2:1:1:x1:1:a0:1")],
        )
        self.assertEqual(key_of(INCLUDE, [], [("a", "include q")]), told("7:0:1:1:a9:include q1"))

    def test_inputs_that_are_not_read_stand_in_it(self):
        self.assertEqual(key_of(PICK, ["b"], [("a", "x"), ("b", "y")]), told("12:1:1:b2:1:a1:x1:b1:y1"))

    def test_neither_taken_nor_full_is_asked(self):
        puts = [put("f%d" % number, "x") for number in range(64)]
        calls = [action(COPY, "act", [], ["f0", "f1"], ["o", "f2"]), key("act"), files()]
        answered = ask(*puts, *calls)[-2:]
        self.assertEqual(answered[0], told("1:0:2:2:f01:x2:f11:x2"))
        self.assertEqual(answered[1][0], 64)

    def test_nothing_changes(self):
        answered = ask(put("a", "x"), action(COPY, "act", [], ["a"], ["o"]), key("act"), key("act"), files(), get("a"))
        self.assertEqual(answered[2:], [told("1:0:1:1:a1:x1")] * 2 + [listed("a"), told("x")])

    def test_it_hangs_on_what_is_there_now(self):
        answered = ask(
            put("a", "x"), action(COPY, "one", [], ["a"], ["b"]), run("one"), action(UPPER, "two", [], ["b"], ["c"]),
            key("two"), put("a", "yy"), key("two"), run("one"), key("two"), put("b", ""), key("two"),
            action(COPY, "two", [], ["a", "b"], ["c", "d"]), key("two"),
        )
        expected = ["2:0:1:1:b1:x1", "2:0:1:1:b1:x1", "2:0:1:1:b2:yy1", "2:0:1:1:b0:1", "1:0:2:1:a2:yy1:b0:2"]
        self.assertEqual(answered[4::2], [told(words) for words in expected])

    def test_the_longest(self):
        data = "x" * 4096
        names = ["%032d" % number for number in range(8)]
        calls = [put("a", data)]
        for name in names:
            calls += [action(COPY, "copy", [], ["a"], [name]), run("copy")]
        calls.append(action(JOIN, "act", ["y" * 64] * 4, names, ["o%d" % number for number in range(8)]))
        whole = "0:4:" + ("64:" + "y" * 64) * 4 + "8:" + "".join("32:" + name + "4096:" + data for name in names) + "8"
        self.assertEqual(last(*calls, key("act")), told(whole))
        self.assertEqual(ask(*calls, *[key("act")] * 52)[-52:], [told(whole)] * 52)


if __name__ == "__main__":
    unittest.main()
