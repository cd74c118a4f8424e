"""What a room holds: files and actions, each by its name as a tuple of bytes."""


class File:
    # made_by is the name of the action whose run made the file last, or None for a source.
    def __init__(self, data, made_by):
        self.data = data
        self.made_by = made_by


class Action:
    def __init__(self, tool, arguments, inputs, outputs):
        self.tool = tool
        self.arguments = arguments
        self.inputs = inputs
        self.outputs = outputs


class Room:
    def __init__(self):
        self.files = {}
        self.actions = {}


def new_or_not(name, held):
    return 0 if name in held else 1


def is_source(room, name):
    return name in room.files and room.files[name].made_by is None
