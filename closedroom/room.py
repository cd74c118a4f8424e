"""The calls on one new room, handed over and answered as one list of whole numbers."""

from closedroom.acting import list_clashes, set_action
from closedroom.filing import forget_file, get_file, list_files, maker_of, put_file
from closedroom.running import key_of, list_reads, list_vain, run_action, would_make
from closedroom.store import Room

PUT = 0
ACTION = 1
RUN = 2
WOULD = 3
GET = 4
MAKER = 5
READS = 6
VAIN = 7
FORGET = 8
CLASHES = 9
KEY = 10
FILES = 11


class UnknownCall(ValueError):
    pass


class Reader:
    def __init__(self, numbers):
        self.numbers = numbers
        self.place = 0

    def at_end(self):
        return self.place >= len(self.numbers)

    def take_number(self):
        number = self.numbers[self.place]
        self.place += 1
        return number

    def take_row(self):
        length = self.take_number()
        row = self.numbers[self.place:self.place + length]
        self.place += length
        return row


def answer_put(room, reader):
    name = reader.take_row()
    data = reader.take_row()
    return put_file(room, name, data)


def answer_action(room, reader):
    tool = reader.take_number()
    name = reader.take_row()
    arguments = reader.take_row()
    inputs = reader.take_row()
    outputs = reader.take_row()
    return set_action(room, tool, name, arguments, inputs, outputs)


def answer_call(room, reader):
    call = reader.take_number()
    if call == PUT:
        return answer_put(room, reader)
    if call == ACTION:
        return answer_action(room, reader)
    if call == RUN:
        return run_action(room, reader.take_row())
    if call == WOULD:
        return would_make(room, reader.take_row())
    if call == GET:
        return get_file(room, reader.take_row())
    if call == MAKER:
        return maker_of(room, reader.take_row())
    if call == READS:
        return list_reads(room, reader.take_row())
    if call == VAIN:
        return list_vain(room, reader.take_row())
    if call == FORGET:
        return forget_file(room, reader.take_row())
    if call == CLASHES:
        return list_clashes(room)
    if call == KEY:
        return key_of(room, reader.take_row())
    if call == FILES:
        return list_files(room)
    raise UnknownCall(call)


def answers(calls):
    room = Room()
    reader = Reader(calls)
    answered = []
    while not reader.at_end():
        answer = answer_call(room, reader)
        answered.append(len(answer))
        answered.extend(answer)
    return answered
