"""The calls on a room: each answers a list of numbers, a refusal as its number alone."""

from closedroom.refusals import ABSENT, FULL, LACKS, LIMIT, LIST, LONG, NAME, TAKEN, TOOL, TWICE
from closedroom.store import Action, File
from closedroom.texts import is_name, texts_in
from closedroom.tools import MOST_FILE_BYTES, TOOLS, outcome_of

MOST_FILES = 64
MOST_ACTIONS = 32
MOST_ARGUMENTS = 4
MOST_ARGUMENT_BYTES = 64
MOST_INPUTS = 8
MOST_OUTPUTS = 8


def new_or_not(name, held):
    return 0 if name in held else 1


def put_file(room, name, data):
    if not is_name(name):
        return [NAME]
    if len(data) > MOST_FILE_BYTES:
        return [LONG]
    key = tuple(name)
    fresh = new_or_not(key, room.files)
    if len(room.files) + fresh > MOST_FILES:
        return [FULL]
    room.files[key] = File(data, None)
    return [fresh]


def past_limits(arguments, inputs, outputs):
    if len(arguments) > MOST_ARGUMENTS:
        return True
    if any([len(argument) > MOST_ARGUMENT_BYTES for argument in arguments]):
        return True
    return len(inputs) > MOST_INPUTS or not 1 <= len(outputs) <= MOST_OUTPUTS


def refusal_of_names(inputs, outputs):
    names = inputs + outputs
    if not all([is_name(name) for name in names]):
        return NAME
    if len(set([tuple(name) for name in names])) != len(names):
        return TWICE
    return 0


def refusal_of_lists(arguments, inputs, outputs):
    if arguments is None or inputs is None or outputs is None:
        return LIST
    if past_limits(arguments, inputs, outputs):
        return LIMIT
    return refusal_of_names(inputs, outputs)


# The three lists come as they were handed over: numbers that may be no list of texts.
def set_action(room, tool, name, argument_numbers, input_numbers, output_numbers):
    if not is_name(name):
        return [NAME]
    if not 0 <= tool < len(TOOLS):
        return [TOOL]
    arguments = texts_in(argument_numbers)
    inputs = texts_in(input_numbers)
    outputs = texts_in(output_numbers)
    refusal = refusal_of_lists(arguments, inputs, outputs)
    if refusal != 0:
        return [refusal]
    key = tuple(name)
    fresh = new_or_not(key, room.actions)
    if len(room.actions) + fresh > MOST_ACTIONS:
        return [FULL]
    input_names = [tuple(text) for text in inputs]
    output_names = [tuple(text) for text in outputs]
    room.actions[key] = Action(tool, arguments, input_names, output_names)
    return [fresh]


def refusal_of_run(room, name):
    if not is_name(name):
        return NAME
    key = tuple(name)
    if key not in room.actions:
        return ABSENT
    if not all([given in room.files for given in room.actions[key].inputs]):
        return LACKS
    return 0


def outcome_in(room, action):
    return outcome_of(action, [room.files[name].data for name in action.inputs])


def failure_answer(outcome):
    return [1, outcome.code] + list(outcome.undeclared)


def is_source(room, name):
    return name in room.files and room.files[name].made_by is None


def refusal_of_outputs(room, names):
    if any([is_source(room, name) for name in names]):
        return TAKEN
    fresh = sum([new_or_not(name, room.files) for name in names])
    if len(room.files) + fresh > MOST_FILES:
        return FULL
    return 0


def keep_outputs(room, key, names, outputs):
    changed = 0
    for name, data in zip(names, outputs):
        if name not in room.files or room.files[name].data != data:
            changed += 1
        room.files[name] = File(data, key)
    return changed


def run_action(room, name):
    refusal = refusal_of_run(room, name)
    if refusal != 0:
        return [refusal]
    key = tuple(name)
    action = room.actions[key]
    outcome = outcome_in(room, action)
    if outcome.code != 0:
        return failure_answer(outcome)
    refusal = refusal_of_outputs(room, action.outputs)
    if refusal != 0:
        return [refusal]
    return [0, keep_outputs(room, key, action.outputs, outcome.outputs)]


def would_make(room, name):
    refusal = refusal_of_run(room, name)
    if refusal != 0:
        return [refusal]
    outcome = outcome_in(room, room.actions[tuple(name)])
    if outcome.code != 0:
        return failure_answer(outcome)
    answer = [0]
    for data in outcome.outputs:
        answer.append(len(data))
        answer.extend(data)
    return answer


def refusal_of_file(room, name):
    if not is_name(name):
        return NAME
    if tuple(name) not in room.files:
        return ABSENT
    return 0


def get_file(room, name):
    refusal = refusal_of_file(room, name)
    if refusal != 0:
        return [refusal]
    return [0] + room.files[tuple(name)].data


def maker_of(room, name):
    refusal = refusal_of_file(room, name)
    if refusal != 0:
        return [refusal]
    made_by = room.files[tuple(name)].made_by
    if made_by is None:
        return [1]
    return [0] + list(made_by)
