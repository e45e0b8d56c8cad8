"""The way in: a list of calls on one new object, and the list of their answers."""

from fieldplan.changes import reply_add, reply_default, reply_drop, reply_rekind, reply_remode, reply_rename
from fieldplan.holder import Holder
from fieldplan.refusals import NOTHING_HELD
from fieldplan.replies import (reply_check, reply_column, reply_columns, reply_find, reply_hold, reply_keep,
                               reply_name, reply_show)

CHECK = 0
HOLD = 1
SHOW = 2
COLUMNS = 3
COLUMN = 4
FIND = 5
NAME = 6
ADD = 7
DROP = 8
RENAME = 9
REMODE = 10
REKIND = 11
DEFAULT = 12

# of each call, by its number, how many whole numbers and how many rows it is handed
NUMBERS_HANDED = (0, 0, 0, 0, 1, 0, 0, 0, 0, 0, 1, 0, 0, 0)
ROWS_HANDED = (1, 1, 0, 0, 0, 1, 1, 2, 1, 2, 1, 2, 2, 1)


class Calls:
    """The numbers of a list of calls, and the place of the first that is not yet taken."""

    def __init__(self, numbers):
        self.numbers = numbers
        self.place = 0

    def are_left(self):
        return self.place < len(self.numbers)

    def take_number(self):
        number = self.numbers[self.place]
        self.place = self.place + 1
        return number

    def take_row(self):
        size = self.take_number()
        start = self.place
        self.place = start + size
        return self.numbers[start:self.place]

    def take_handed(self, call):
        """What the call is handed: its whole numbers, then its rows."""
        handed = []
        for turn in range(NUMBERS_HANDED[call]):
            handed.append(self.take_number())
        for turn in range(ROWS_HANDED[call]):
            handed.append(self.take_row())
        return handed


def answers(calls):
    """For each call in order how many numbers are answered, and these."""
    left = Calls(calls)
    holder = Holder()
    given = []
    while left.are_left():
        call = left.take_number()
        answer = answer_call(holder, call, left.take_handed(call))
        given.append(len(answer))
        given.extend(answer)
    return given


def answer_call(holder, call, handed):
    if call == CHECK:
        return reply_check(handed[0])
    if call == HOLD:
        return reply_hold(holder, handed[0])
    if holder.schema is None:
        return [NOTHING_HELD]
    if ADD <= call <= DEFAULT:
        return answer_change(holder, call, handed)
    return answer_question(holder, call, handed)


def answer_question(holder, call, handed):
    if call == SHOW:
        return reply_show(holder)
    if call == COLUMNS:
        return reply_columns(holder)
    if call == COLUMN:
        return reply_column(holder, handed[0])
    if call == FIND:
        return reply_find(holder, handed[0])
    if call == NAME:
        return reply_name(holder, handed[0])
    return reply_keep(holder, handed[0])


def answer_change(holder, call, handed):
    if call == ADD:
        return reply_add(holder, handed[0], handed[1])
    if call == DROP:
        return reply_drop(holder, handed[0])
    if call == RENAME:
        return reply_rename(holder, handed[0], handed[1])
    if call == REMODE:
        return reply_remode(holder, handed[0], handed[1])
    if call == REKIND:
        return reply_rekind(holder, handed[0], handed[1])
    return reply_default(holder, handed[0], handed[1])
