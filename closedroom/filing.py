"""The calls on a room's files: put, get, maker, forget, files."""

from closedroom.refusals import ABSENT, FULL, LONG, NAME
from closedroom.store import File, new_or_not
from closedroom.texts import is_name, put_lines
from closedroom.tools import MOST_FILE_BYTES

MOST_FILES = 64


def put_file(room, name, data):
    if not is_name(name):
        return [NAME]
    if len(data) > MOST_FILE_BYTES:
        return [LONG]
    key = tuple(name)
    fresh = new_or_not(key, room.files)
    if len(room.files) + fresh > MOST_FILES:
        return [FULL]
    room.files[key] = File(data, None)
    return [fresh]


def refusal_of_file(room, name):
    if not is_name(name):
        return NAME
    if tuple(name) not in room.files:
        return ABSENT
    return 0


def get_file(room, name):
    refusal = refusal_of_file(room, name)
    if refusal != 0:
        return [refusal]
    return [0] + room.files[tuple(name)].data


def maker_of(room, name):
    refusal = refusal_of_file(room, name)
    if refusal != 0:
        return [refusal]
    made_by = room.files[tuple(name)].made_by
    if made_by is None:
        return [1]
    return [0] + list(made_by)


def forget_file(room, name):
    refusal = refusal_of_file(room, name)
    if refusal != 0:
        return [refusal]
    room.files.pop(tuple(name))
    return [0]


def list_files(room):
    return [len(room.files)] + put_lines(sorted(room.files))
