"""Outcomes of an action: bytes for each output, or a failure told by its code; and what was read."""

COUNT = 1
ARGUMENT = 2
UNDECLARED = 3
CIRCLE = 4
DEEP = 5
NOTHING = 6
FAILED = 7
LONG = 8
NUMBER = 9


class Outcome:
    # A code of 0 stands for no failure: the document's codes begin at 1.
    # read holds the names of the inputs that were read, in that order; they hang on what a
    # tool found in its inputs, so the tool itself tells them.
    def __init__(self, code, undeclared, outputs, read):
        self.code = code
        self.undeclared = undeclared
        self.outputs = outputs
        self.read = read


def made(outputs, read):
    return Outcome(0, (), outputs, read)


def failed(code, read):
    return Outcome(code, (), [], read)


def failed_undeclared(name, read):
    return Outcome(UNDECLARED, name, [], read)
