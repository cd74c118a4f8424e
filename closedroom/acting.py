"""The calls on a room's actions as they were told: action, clashes."""

from closedroom.refusals import FULL, LIMIT, LIST, NAME, TOOL, TWICE
from closedroom.store import Action, is_source, new_or_not
from closedroom.texts import is_name, put_lines, texts_in
from closedroom.tools import TOOLS

MOST_ACTIONS = 32
MOST_ARGUMENTS = 4
MOST_ARGUMENT_BYTES = 64
MOST_INPUTS = 8
MOST_OUTPUTS = 8
MOST_CLASHES_NAMED = 16


def past_limits(arguments, inputs, outputs):
    if len(arguments) > MOST_ARGUMENTS:
        return True
    if any([len(argument) > MOST_ARGUMENT_BYTES for argument in arguments]):
        return True
    return len(inputs) > MOST_INPUTS or not 1 <= len(outputs) <= MOST_OUTPUTS


def refusal_of_names(inputs, outputs):
    names = inputs + outputs
    if not all([is_name(name) for name in names]):
        return NAME
    if len(set([tuple(name) for name in names])) != len(names):
        return TWICE
    return 0


def refusal_of_lists(arguments, inputs, outputs):
    if arguments is None or inputs is None or outputs is None:
        return LIST
    if past_limits(arguments, inputs, outputs):
        return LIMIT
    return refusal_of_names(inputs, outputs)


# The three lists come as they were handed over: numbers that may be no list of texts.
def set_action(room, tool, name, argument_numbers, input_numbers, output_numbers):
    if not is_name(name):
        return [NAME]
    if not 0 <= tool < len(TOOLS):
        return [TOOL]
    arguments = texts_in(argument_numbers)
    inputs = texts_in(input_numbers)
    outputs = texts_in(output_numbers)
    refusal = refusal_of_lists(arguments, inputs, outputs)
    if refusal != 0:
        return [refusal]
    key = tuple(name)
    fresh = new_or_not(key, room.actions)
    if len(room.actions) + fresh > MOST_ACTIONS:
        return [FULL]
    input_names = [tuple(text) for text in inputs]
    output_names = [tuple(text) for text in outputs]
    room.actions[key] = Action(tool, arguments, input_names, output_names)
    return [fresh]


# No name stands twice among one action's outputs, so each time is another action.
def times_an_output(room):
    times = {}
    for action in room.actions.values():
        for name in action.outputs:
            times[name] = times.get(name, 0) + 1
    return times


def list_clashes(room):
    times = times_an_output(room)
    names = sorted([name for name in times if times[name] > 1 or is_source(room, name)])
    return [len(names)] + put_lines(names[:MOST_CLASHES_NAMED])
