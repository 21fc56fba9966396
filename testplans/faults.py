"""The faults that a plan's text may have."""

STRANGE_BYTE = 1
BAD_TOKEN = 2
MISPLACED = 3
UNENDED = 4
TOO_MANY = 5
REPEATED = 6
UNKNOWN = 7
OUT_OF_RANGE = 8


class Fault(Exception):
    """The first fault of a text: its kind and its place."""

    def __init__(self, kind, place):
        Exception.__init__(self, kind, place)
        self.kind = kind
        self.place = place
