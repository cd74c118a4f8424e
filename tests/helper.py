"""Builds lists of calls and parts the list of answers, one answer a call."""

from closedroom.room import answers

NAME, LONG, FULL, LIST, TOOL, LIMIT, TWICE, ABSENT, LACKS, TAKEN = range(-1, -11, -1)

COUNT, ARGUMENT, UNDECLARED, CIRCLE, DEEP, NOTHING, FAILED, TOO_LONG, NUMBER = range(1, 10)

(JOIN, COPY, UPPER, SORT, TAKE, FIND, REPLACE, INCLUDE, SPLIT, TEST, COUNTS, NAMES, PICK, SUM) = range(14)


def text(words):
    return list(words.encode("latin-1")) if isinstance(words, str) else list(words)


def row(numbers):
    return [len(numbers)] + list(numbers)


def texts(words):
    numbers = []
    for word in words:
        numbers += row(text(word))
    return numbers


def put(name, data=""):
    return [0] + row(text(name)) + row(text(data))


def raw_action(tool, name, arguments, inputs, outputs):
    return [1, tool] + row(text(name)) + row(arguments) + row(inputs) + row(outputs)


def action(tool, name, arguments, inputs, outputs):
    return raw_action(tool, name, texts(arguments), texts(inputs), texts(outputs))


def run(name):
    return [2] + row(text(name))


def would(name):
    return [3] + row(text(name))


def get(name):
    return [4] + row(text(name))


def maker(name):
    return [5] + row(text(name))


def reads(name):
    return [6] + row(text(name))


def vain(name):
    return [7] + row(text(name))


def forget(name):
    return [8] + row(text(name))


def clashes():
    return [9]


def key(name):
    return [10] + row(text(name))


def files():
    return [11]


def parted(numbers):
    parts = []
    place = 0
    while place < len(numbers):
        length = numbers[place]
        parts.append(numbers[place + 1:place + 1 + length])
        place += 1 + length
    return parts


def ask(*calls):
    handed = []
    for call in calls:
        handed += call
    given = answers(handed)
    parts = parted(given)
    assert sum(1 + len(part) for part in parts) == len(given)
    assert len(parts) == len(calls)
    return parts


def last(*calls):
    return ask(*calls)[-1]


def told(words):
    """An answer that is 0 and then a text."""
    return [0] + text(words)


def listed(*names):
    """An answer that is how many names there are, and then these in lines."""
    return [len(names)] + text("".join(name + "\n" for name in names))


def made(*outputs):
    """What would answers for these outputs."""
    return [0] + texts(outputs)


def failure(code, name=""):
    return [1, code] + text(name)


def declared(tool, arguments, pairs, outputs=("out",)):
    """The calls that put these pairs of a name and bytes and tell the action act with them as inputs."""
    calls = [put(name, data) for name, data in pairs]
    return calls + [action(tool, "act", arguments, [name for name, data in pairs], outputs)]


def outcome(tool, arguments, pairs, outputs=("out",)):
    """What would answers for an action whose inputs are these pairs of a name and bytes."""
    return last(*declared(tool, arguments, pairs, outputs), would("act"))
