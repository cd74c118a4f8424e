"""Point 2 (action)."""

import unittest

from tests.helper import (
    ABSENT, FULL, JOIN, LIMIT, LIST, NAME, PICK, TOOL, TWICE,
    action, ask, failure, last, made, put, raw_action, run, texts, would,
)

FAR = 10 ** 18
NINE_NAMES = ["n%d" % number for number in range(9)]
NO_LISTS = ([1], [2, 97], [-1], [-FAR], [FAR], [0, 1], [1, 97, 1], [1, 256], [1, -1], [2, 97, FAR], [1, 97, -1, 97])


def act(arguments=(), inputs=(), outputs=("o",), tool=JOIN, name="act"):
    return action(tool, name, arguments, inputs, outputs)


def full_room():
    return [act(name="act%d" % number) for number in range(32)]


class Action(unittest.TestCase):
    def refused(self, number, call):
        """The call is refused, and an action of the same name stays as it was."""
        self.assertEqual(ask(call, would("act"))[0], [number])
        first = [act(["-"], [], ["o"])]
        answered = ask(*first, call, would("act"))
        self.assertEqual(answered, [[1], [number], made("")])

    def test_new_is_1_and_known_is_0(self):
        answered = ask(act(["x"]), would("act"), act(["x"], tool=PICK), would("act"))
        self.assertEqual(answered, [[1], made(""), [0], failure(3, "x")])

    def test_lengths_of_its_name(self):
        self.assertEqual(last(act(name="")), [NAME])
        self.assertEqual(last(act(name="n")), [1])
        self.assertEqual(last(act(name="n" * 32)), [1])
        self.assertEqual(last(act(name="n" * 33)), [NAME])
        self.assertEqual(last(act(name="a b")), [NAME])

    def test_tools(self):
        for tool in range(14):
            self.assertEqual(last(act(tool=tool)), [1])
        for tool in (-1, 14, -FAR, FAR):
            self.refused(TOOL, act(tool=tool))

    def test_what_is_no_list_of_texts(self):
        for numbers in NO_LISTS:
            self.refused(LIST, raw_action(JOIN, "act", numbers, [], texts(["o"])))
            self.refused(LIST, raw_action(JOIN, "act", [], numbers, texts(["o"])))
            self.refused(LIST, raw_action(JOIN, "act", [], [], numbers))

    def test_all_bytes_may_stand_in_an_argument(self):
        data = list(range(256))
        arguments = texts([data[place:place + 64] for place in range(0, 256, 64)])
        self.assertEqual(last(raw_action(JOIN, "act", arguments, [], texts(["o"]))), [1])

    def test_four_arguments_and_five(self):
        self.assertEqual(last(act([""] * 4)), [1])
        self.refused(LIMIT, act([""] * 5))
        self.refused(LIMIT, raw_action(JOIN, "act", [0] * 5000, [], texts(["o"])))

    def test_64_bytes_of_an_argument_and_65(self):
        self.assertEqual(last(act(["x" * 64] * 4)), [1])
        self.refused(LIMIT, act(["x" * 65]))
        self.refused(LIMIT, act(["", "", "", "x" * 65]))

    def test_eight_inputs_and_nine(self):
        self.assertEqual(last(act(inputs=NINE_NAMES[:8])), [1])
        self.refused(LIMIT, act(inputs=NINE_NAMES))

    def test_outputs_none_and_eight_and_nine(self):
        self.assertEqual(last(act(outputs=NINE_NAMES[:8])), [1])
        self.refused(LIMIT, act(outputs=NINE_NAMES))
        self.refused(LIMIT, act(outputs=[]))

    def test_names_of_inputs_and_outputs(self):
        for name in ("", "n" * 33, "a b", "a\n", "\xff"):
            self.refused(NAME, act(inputs=[name]))
            self.refused(NAME, act(inputs=["a", name]))
            self.refused(NAME, act(outputs=[name]))
            self.refused(NAME, act(outputs=["a", name]))
        for name in ("n", "n" * 32):
            self.assertEqual(last(act(inputs=[name])), [1])
            self.assertEqual(last(act(outputs=[name])), [1])

    def test_a_name_that_stands_twice(self):
        self.refused(TWICE, act(inputs=["a", "b", "a"]))
        self.refused(TWICE, act(outputs=["a", "b", "a"]))
        self.refused(TWICE, act(inputs=["a", "b"], outputs=["c", "b"]))
        self.assertEqual(last(act(inputs=["act"], outputs=["b"])), [1])
        self.assertEqual(last(act(["a", "a"], inputs=["a"])), [1])

    def test_32_actions_and_one_more(self):
        answered = ask(*full_room(), act(name="more"), would("more"), act(["x"], name="act31"), would("act31"))
        self.assertEqual(answered[:32], [[1]] * 32)
        self.assertEqual(answered[32:], [[FULL], [ABSENT], [0], made("")])

    def test_files_and_actions_are_counted_apart(self):
        self.assertEqual(last(*full_room(), put("a")), [1])
        files = [put("f%d" % number) for number in range(40)]
        self.assertEqual(last(*files, act()), [1])

    def test_an_action_and_a_file_of_one_name(self):
        self.assertEqual(ask(put("act", "x"), act([""]), run("act")), [[1], [1], [0, 1]])

    def test_the_order_of_refusals(self):
        names = texts(["a", "a", ""])
        past = [0] * 5
        rows = (
            (NAME, raw_action(99, "", [1], [1], [1])),
            (TOOL, raw_action(99, "act", [1], [1], [1])),
            (LIST, raw_action(JOIN, "act", past, names, [1])),
            (LIST, raw_action(JOIN, "act", past, [1], names)),
            (LIST, raw_action(JOIN, "act", [1], [], [])),
            (LIMIT, raw_action(JOIN, "act", past, names, names)),
            (LIMIT, raw_action(JOIN, "act", [], names, [])),
            (NAME, raw_action(JOIN, "act", [], names, texts(["o"]))),
            (NAME, raw_action(JOIN, "act", [], texts(["a", "a"]), texts([""]))),
            (TWICE, raw_action(JOIN, "act", [], texts(["a", "a"]), texts(["o"]))),
        )
        for number, call in rows:
            self.assertEqual(last(*full_room(), call), [number])
            self.refused(number, call)


if __name__ == "__main__":
    unittest.main()
