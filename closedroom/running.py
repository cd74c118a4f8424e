"""The calls on an action with the files of its inputs: run, would, reads, vain, key."""

from closedroom.filing import MOST_FILES
from closedroom.refusals import ABSENT, FULL, LACKS, NAME, TAKEN
from closedroom.store import File, is_source, new_or_not
from closedroom.texts import decimal, is_name, put_lines, text_of
from closedroom.tools import outcome_of


def refusal_of_run(room, name):
    if not is_name(name):
        return NAME
    key = tuple(name)
    if key not in room.actions:
        return ABSENT
    if not all([given in room.files for given in room.actions[key].inputs]):
        return LACKS
    return 0


def outcome_in(room, action):
    return outcome_of(action, [room.files[name].data for name in action.inputs])


def failure_answer(outcome):
    return [1, outcome.code] + list(outcome.undeclared)


def refusal_of_outputs(room, names):
    if any([is_source(room, name) for name in names]):
        return TAKEN
    fresh = sum([new_or_not(name, room.files) for name in names])
    if len(room.files) + fresh > MOST_FILES:
        return FULL
    return 0


def keep_outputs(room, key, names, outputs):
    changed = 0
    for name, data in zip(names, outputs):
        if name not in room.files or room.files[name].data != data:
            changed += 1
        room.files[name] = File(data, key)
    return changed


def run_action(room, name):
    refusal = refusal_of_run(room, name)
    if refusal != 0:
        return [refusal]
    key = tuple(name)
    action = room.actions[key]
    outcome = outcome_in(room, action)
    if outcome.code != 0:
        return failure_answer(outcome)
    refusal = refusal_of_outputs(room, action.outputs)
    if refusal != 0:
        return [refusal]
    return [0, keep_outputs(room, key, action.outputs, outcome.outputs)]


def would_make(room, name):
    refusal = refusal_of_run(room, name)
    if refusal != 0:
        return [refusal]
    outcome = outcome_in(room, room.actions[tuple(name)])
    if outcome.code != 0:
        return failure_answer(outcome)
    answer = [0]
    for data in outcome.outputs:
        answer.append(len(data))
        answer.extend(data)
    return answer


def list_reads(room, name):
    refusal = refusal_of_run(room, name)
    if refusal != 0:
        return [refusal]
    read = outcome_in(room, room.actions[tuple(name)]).read
    return [len(read)] + put_lines(read)


def list_vain(room, name):
    refusal = refusal_of_run(room, name)
    if refusal != 0:
        return [refusal]
    action = room.actions[tuple(name)]
    read = outcome_in(room, action).read
    vain = [given for given in action.inputs if given not in read]
    return [len(vain)] + put_lines(vain)


def before_colon(number):
    return decimal(number) + text_of(":")


# The length ahead of it keeps apart what else would run together: a text may hold colons and
# digits itself.
def with_length(text):
    return before_colon(len(text)) + list(text)


def key_text(room, action):
    text = before_colon(action.tool) + before_colon(len(action.arguments))
    for argument in action.arguments:
        text.extend(with_length(argument))
    text.extend(before_colon(len(action.inputs)))
    for name in action.inputs:
        text.extend(with_length(name))
        text.extend(with_length(room.files[name].data))
    return text + decimal(len(action.outputs))


def key_of(room, name):
    refusal = refusal_of_run(room, name)
    if refusal != 0:
        return [refusal]
    return [0] + key_text(room, room.actions[tuple(name)])
