"""Promise 12: remode gives a field another mode, and leaves its default."""

import unittest

from tests.asking import EXAMPLE, ask, hold, remode, show, shown
from tests.changing import FAR, Changing


class Remode(Changing):
    def test_each_mode_of_a_leaf(self):
        for before in "!?*":
            for number, after in enumerate("!?*"):
                self.settled("{1a" + before + "b}", remode(number, [1]), "{1a" + after + "b}")
            self.refused("{1a" + before + "b}", remode(3, [1]), -16)

    def test_each_mode_of_a_record(self):
        for before in "!?*%":
            for number, after in enumerate("!?*%"):
                self.settled("{1a" + before + "{1k!b}}", remode(number, [1]), "{1a" + after + "{1k!b}}")

    def test_each_mode_of_a_group_in_a_record(self):
        for number, after in enumerate("!?*"):
            self.settled("{1a!<1k!b>}", remode(number, [1]), "{1a" + after + "<1k!b>}")
            self.settled("{1a!{1b!{1k?b}}}", remode(number, [1, 1]), "{1a!{1b" + after + "{1k?b}}}")

    def test_numbers_of_no_mode(self):
        for number in (-1, -2, -3, -4, 4, 5, 33, 63, FAR, -FAR):
            self.refused(EXAMPLE, remode(number, [1]), -6)
            self.refused(EXAMPLE, remode(number, [6]), -6)

    def test_no_field(self):
        self.refused_without_field(lambda path: remode(0, path))
        self.refused_without_field(lambda path: remode(4, path))
        self.refused(EXAMPLE, remode(0, []), -4)
        self.refused(EXAMPLE, remode(-1, []), -4)

    def test_keyed_where_it_may_not_stand(self):
        for kind in ("b", "i8", "t3", "<1k!b>", "{1k?b}", "{1k*b}", "{1k!{1j!b}}", "{1k!<1j!b>}", "{1k%{1j!b}}",
                     "{1k?b;2v!b}"):
            self.refused("{1a!" + kind + "}", remode(3, [1]), -16)

    def test_in_a_choice(self):
        for number in (1, 2, 3):
            self.refused("{1a!<1b!b>}", remode(number, [1, 1]), -14)
            self.refused("{1a!<1b!b;2c!{1k!b}>}", remode(number, [1, 2]), -14)
        self.settled("{1a!<1b!b>}", remode(0, [1, 1]), "{1a!<1b!b>}")
        self.refused("{1a!<1b!b>}", remode(4, [1, 1]), -6)
        self.settled("{1a!<1b!{1c!b}>}", remode(2, [1, 1, 1]), "{1a!<1b!{1c*b}>}")

    def test_at_a_field_with_a_default(self):
        for leaf in ("b=0", "i8=-5", 't3="x"', 't3=""'):
            text = "{1a!" + leaf + "}"
            self.settled(text, remode(0, [1]), text)
            self.refused(text, remode(1, [1]), -19)
            self.refused(text, remode(2, [1]), -19)
            self.refused(text, remode(3, [1]), -16)

    def test_at_a_key(self):
        for key in ("{1k!b}", "{1k!i8=3;2v?b}"):
            text = "{1a%" + key + "}"
            self.settled(text, remode(0, [1, 1]), text)
        self.refused("{1a%{1k!b}}", remode(1, [1, 1]), -16)
        self.refused("{1a%{1k!b}}", remode(2, [1, 1]), -16)
        self.refused("{1a%{1k!b}}", remode(3, [1, 1]), -16)
        self.refused("{1a%{1k!b=0}}", remode(1, [1, 1]), -19)
        self.settled("{1a%{1k!b;2v?i8}}", remode(0, [1, 2]), "{1a%{1k!b;2v!i8}}")

    def test_a_key_that_may_be_missing_once_none_is_needed(self):
        calls = [remode(1, [6, 1]), remode(2, [6]), remode(1, [6, 1]), remode(3, [6]), show()]
        after = EXAMPLE.replace("6attr%{1key!", "6attr*{1key?")
        self.assertEqual(ask(hold(EXAMPLE), *calls), [[0], [-16], [0], [0], [-16], shown(after)])


if __name__ == "__main__":
    unittest.main()
