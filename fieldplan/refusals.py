"""The numbers that calls are refused with."""

NO_SCHEMA = -1
NOTHING_HELD = -2
NO_COLUMN = -3
NO_FIELD = -4
UNFIT_TEXT = -5
NO_MODE = -6

# a change that leaves no schema is refused with this, less the kind of its text's first fault
UNSETTLED = -10
