"""Outcomes of an action: bytes for each output, or a failure told by its code."""

COUNT = 1
ARGUMENT = 2
UNDECLARED = 3
CIRCLE = 4
DEEP = 5
NOTHING = 6
FAILED = 7
LONG = 8
NUMBER = 9


class Outcome:
    # A code of 0 stands for no failure: the document's codes begin at 1.
    def __init__(self, code, undeclared, outputs):
        self.code = code
        self.undeclared = undeclared
        self.outputs = outputs


def made(outputs):
    return Outcome(0, (), outputs)


def failed(code):
    return Outcome(code, (), [])


def failed_undeclared(name):
    return Outcome(UNDECLARED, name, [])
