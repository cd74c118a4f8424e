"""The numbers by which a call is refused."""

NAME = -1
LONG = -2
FULL = -3
LIST = -4
TOOL = -5
LIMIT = -6
TWICE = -7
ABSENT = -8
LACKS = -9
TAKEN = -10
