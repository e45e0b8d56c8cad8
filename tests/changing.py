"""How the tests of changes ask: what is held before and behind a call, with all that can be asked of it."""

import unittest

from tests.asking import EXAMPLE, ask, column, columns, find, hold, name, show, shown

FAR = 10 ** 18
# of EXAMPLE, all that is no field's path
NO_FIELDS = ([0], [7], [-1], [-6], [FAR], [-FAR], [1, 1], [4, 0], [4, 3], [4, 1, 1], [5, 2, 2], [5, 2, 1, 1], [0, 4],
             [4] * 100, [1] * 100)


def questions(text):
    """Calls that ask for all there is to know of this schema while it is held."""
    count = ask(hold(text), columns())[1][0]
    told = ask(hold(text), *[column(number) for number in range(count)])[1:]
    paths = []
    for path in [answer[5:] for answer in told]:
        paths += [path[:size] for size in range(1, len(path) + 1) if path[:size] not in paths]
    names = [answer[1:] for answer in ask(hold(text), *[name(path) for path in paths])[1:]]
    calls = [show(), columns()] + [column(number) for number in range(-1, count + 1)]
    return calls + [find(dotted) for dotted in names] + [name(path) for path in paths]


class Changing(unittest.TestCase):
    def holds(self, before, calls, answers, after):
        """Behind these calls all is as if `after` had been held."""
        asked = questions(after)
        fresh = ask(hold(after), *asked)
        self.assertEqual(fresh[:2], [[0], shown(after)])
        told = ask(hold(before), *calls, *asked)
        self.assertEqual(told[:len(calls) + 1], [[0]] + answers)
        self.assertEqual(told[len(calls) + 1:], fresh[1:])

    def settled(self, before, call, after):
        with self.subTest(before=before[:60], call=call[:40]):
            self.holds(before, [call], [[0]], after)

    def refused(self, before, call, refusal):
        with self.subTest(before=before[:60], call=call[:40]):
            self.holds(before, [call], [[refusal]], before)

    def refused_without_field(self, call_with):
        """Without a field -4 is told, whatever else; `call_with` makes the call with a path."""
        for path in NO_FIELDS:
            self.refused(EXAMPLE, call_with(path), -4)
