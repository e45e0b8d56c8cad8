"""What may be wrong in a text, by the kinds that the document numbers."""

MALFORMED = 1
NUMBER_NOT_GREATER = 2
NAME_TWICE = 3
MODE_IN_CHOICE = 4
OUT_OF_RANGE = 5
NO_KEY = 6
TOO_DEEP = 7
TOO_MANY_LEAVES = 8
DEFAULT_MISPLACED = 9
TOO_LONG = 10


class Fault(Exception):
    """The first thing that is wrong in a text that is read."""

    def __init__(self, kind, place):
        self.kind = kind
        self.place = place
