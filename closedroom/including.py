"""The lines of a file with the lines of other declared files in the place of its include lines."""

from closedroom.outcomes import CIRCLE, DEEP, UNDECLARED, failed, failed_undeclared, made
from closedroom.texts import is_name, lines_of, put_lines, text_of

START = "include "
MOST_DEEP = 6
MOST_FOLLOWED = 64


# Each part is a tuple: lines that stay as they are, put as lines, and the name that the
# line behind them includes. The last part has None for the name.
def parts_of(text):
    start = text_of(START)
    parts = []
    kept = []
    for line in lines_of(text):
        name = line[len(start):]
        if line[:len(start)] == start and is_name(name):
            parts.append((put_lines(kept), tuple(name)))
            kept = []
        else:
            kept.append(line)
    parts.append((put_lines(kept), None))
    return parts


def parts_by_name(names, data):
    parts = {}
    for name, text in zip(names, data):
        parts[name] = parts_of(text)
    return parts


# within holds the names of the files in whose lines the include line stands, in0's first,
# so its length is how many files would stand one in another, in0 not counted.
def trouble_of(name, parts, within, followed):
    if name not in parts:
        return UNDECLARED
    if name in within:
        return CIRCLE
    if len(within) > MOST_DEEP or followed >= MOST_FOLLOWED:
        return DEEP
    return 0


def failure_of(trouble, name, read):
    if trouble == UNDECLARED:
        return failed_undeclared(name, read)
    return failed(trouble, read)


def included(names, data):
    parts = parts_by_name(names, data)
    within = [names[0]]
    places = [0]
    read = [names[0]]
    followed = 0
    text = []
    while within:
        part = parts[within[-1]][places[-1]]
        places[-1] += 1
        text.extend(part[0])
        name = part[1]
        if name is None:
            within.pop()
            places.pop()
            continue
        trouble = trouble_of(name, parts, within, followed)
        if trouble != 0:
            return failure_of(trouble, name, read)
        within.append(name)
        places.append(0)
        if name not in read:
            read.append(name)
        followed += 1
    return made([text], read)
