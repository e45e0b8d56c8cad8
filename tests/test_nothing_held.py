"""Promise 3: while no schema is held, all calls but check and hold are refused with -2, before all else."""

import unittest

from tests.asking import (add, ask, check, column, columns, default, drop, find, hold, keep, name, rekind, remode,
                          rename, show)

FAR = 10 ** 18

RIGHT = [
    show(), columns(), column(0), find("a"), name([1]), add([], "2b!b"), drop([1]), rename([1], "c"), remode(1, [1]),
    rekind([1], "i8"), default([1], "0"), keep([0]),
]
WRONG = [
    column(-1), column(FAR), find(""), find("."), name([]), name([-FAR]),
    add([9], "2b!b"), add([], ""), add([9], "}"), add([1], "x" * 5000), drop([]), drop([FAR]), drop([1] * 100),
    rename([], "c"), rename([1], ""), rename([9], "-" * 5000), remode(4, [1]), remode(-1, [9]), remode(FAR, []),
    rekind([], "b"), rekind([1], ""), rekind([9], "b=0"), default([], ""), default([1], ""), default([9], '"'),
    keep([]), keep([-1]), keep([FAR] * 100),
]


class NothingHeld(unittest.TestCase):
    def refused(self, *ahead):
        for call in RIGHT + WRONG:
            with self.subTest(call=call[:20]):
                self.assertEqual(ask(*ahead, call)[-1], [-2])

    def test_new(self):
        self.refused()

    def test_behind_what_is_no_schema(self):
        self.refused(hold(""))
        self.refused(hold("{1a!b"), hold("{}"))

    def test_behind_check(self):
        self.refused(check("{1a!b}"))

    def test_behind_other_refusals(self):
        self.assertEqual(ask(*RIGHT, *WRONG), [[-2]] * (len(RIGHT) + len(WRONG)))

    def test_no_change_makes_a_schema(self):
        self.assertEqual(ask(add([], "1a!b"), show(), hold("{1a!b}"), columns()), [[-2], [-2], [0], [1]])

    def test_no_longer_once_one_is_held(self):
        for call in RIGHT + WRONG:
            with self.subTest(call=call[:20]):
                self.assertNotEqual(ask(call, hold("{1a!b}"), call)[2], [-2])


if __name__ == "__main__":
    unittest.main()
