"""The table of tools: each is handed an action and its inputs' bytes, and answers an outcome."""

from closedroom.including import included
from closedroom.outcomes import (
    ARGUMENT, COUNT, FAILED, LONG, NOTHING, NUMBER, failed, failed_undeclared, made,
)
from closedroom.texts import (
    decimal, is_name, is_number, lines_of, number_of, put_lines, replaced, stands_in, text_of, upper_letters,
)

MOST_FILE_BYTES = 4096
MOST_TAKE_DIGITS = 4
MOST_SUM_DIGITS = 9


# Most tools tell all inputs as read: where they read in0 alone, or in0 and in1, the counts
# that they ask leave them no other.
def join_inputs(action, data):
    text = []
    for place, piece in enumerate(data):
        if place > 0:
            text.extend(action.arguments[0])
        text.extend(piece)
    return made([text], action.inputs)


def copy_inputs(action, data):
    if len(action.outputs) != len(data):
        return failed(COUNT, [])
    return made(list(data), action.inputs)


def upper_input(action, data):
    return made([upper_letters(data[0])], action.inputs)


def each_once(lines):
    kept = []
    for line in lines:
        if not kept or kept[-1] != line:
            kept.append(line)
    return kept


def sort_lines(action, data):
    how = action.arguments[0]
    lines = sorted(lines_of(data[0]))
    if how == text_of("once"):
        return made([put_lines(each_once(lines))], action.inputs)
    if how == text_of("all"):
        return made([put_lines(lines)], action.inputs)
    return failed(ARGUMENT, action.inputs)


def take_lines(action, data):
    digits = action.arguments[0]
    if not is_number(digits, MOST_TAKE_DIGITS):
        return failed(ARGUMENT, action.inputs)
    return made([put_lines(lines_of(data[0])[:number_of(digits)])], action.inputs)


def find_lines(action, data):
    piece = action.arguments[0]
    lines = [line for line in lines_of(data[0]) if stands_in(piece, line)]
    if not lines:
        return failed(NOTHING, action.inputs)
    return made([put_lines(lines)], action.inputs)


def replace_places(action, data):
    old = action.arguments[0]
    if not old:
        return failed(ARGUMENT, action.inputs)
    return made([replaced(data[0], old, action.arguments[1])], action.inputs)


def include_lines(action, data):
    return included(action.inputs, data)


def split_pieces(action, data):
    parting = text_of("---")
    pieces = [[]]
    for line in lines_of(data[0]):
        if line == parting:
            pieces.append([])
        else:
            pieces[-1].append(line)
    if len(pieces) != len(action.outputs):
        return failed(NOTHING, action.inputs)
    return made([put_lines(piece) for piece in pieces], action.inputs)


def compare_inputs(action, data):
    if data[0] != data[1]:
        return failed(FAILED, action.inputs)
    return made([text_of("pass\n")], action.inputs)


def count_input(action, data):
    lines = decimal(len(lines_of(data[0])))
    return made([lines + text_of(" ") + decimal(len(data[0])) + text_of("\n")], action.inputs)


def name_inputs(action, data):
    return made([put_lines(action.inputs)], [])


def pick_input(action, data):
    if not is_name(action.arguments[0]):
        return failed(ARGUMENT, [])
    wanted = tuple(action.arguments[0])
    for name, text in zip(action.inputs, data):
        if name == wanted:
            return made([text], [name])
    return failed_undeclared(wanted, [])


def sum_lines(action, data):
    total = 0
    for text in data:
        for line in lines_of(text):
            if not is_number(line, MOST_SUM_DIGITS):
                return failed(NUMBER, action.inputs)
            total += number_of(line)
    return made([decimal(total) + text_of("\n")], action.inputs)


TOOLS = (
    join_inputs, copy_inputs, upper_input, sort_lines, take_lines, find_lines, replace_places,
    include_lines, split_pieces, compare_inputs, count_input, name_inputs, pick_input, sum_lines,
)

# A row a tool: how many arguments, then the fewest and the most inputs, then the fewest and
# the most outputs. That copy asks as many outputs as inputs doesn't fit a row: it looks itself.
ASKED = (
    (1, 0, 8, 1, 1),
    (0, 0, 8, 1, 8),
    (0, 1, 1, 1, 1),
    (1, 1, 1, 1, 1),
    (1, 1, 1, 1, 1),
    (1, 1, 1, 1, 1),
    (2, 1, 1, 1, 1),
    (0, 1, 8, 1, 1),
    (0, 1, 1, 1, 8),
    (0, 2, 2, 1, 1),
    (0, 1, 1, 1, 1),
    (0, 0, 8, 1, 1),
    (1, 0, 8, 1, 1),
    (0, 0, 8, 1, 1),
)


def counts_fit(action):
    asked = ASKED[action.tool]
    if len(action.arguments) != asked[0]:
        return False
    if not asked[1] <= len(action.inputs) <= asked[2]:
        return False
    return asked[3] <= len(action.outputs) <= asked[4]


def outcome_of(action, data):
    if not counts_fit(action):
        return failed(COUNT, [])
    tool = TOOLS[action.tool]
    outcome = tool(action, data)
    if any([len(text) > MOST_FILE_BYTES for text in outcome.outputs]):
        return failed(LONG, outcome.read)
    return outcome
