"""Promise 10: drop takes a field out with all that is within it."""

import unittest

from tests.asking import EXAMPLE, ask, columns, drop, find, hold, nested, with_leaves
from tests.changing import Changing

FIELDS = ("1id!i32", "2name?t20", "3tags*t8", "4pos?{1x!i16=0;2y!i16}", "5shape!<1dot!b;2line!{1len!i8}>",
          "6attr%{1key!t4;2val?i32}")


class Drop(Changing):
    def test_each_field_of_the_example(self):
        for place in range(6):
            left = "{" + ";".join(FIELDS[:place] + FIELDS[place + 1:]) + "}"
            self.settled(EXAMPLE, drop([place + 1]), left)

    def test_a_field_within_a_group(self):
        self.settled(EXAMPLE, drop([4, 1]), EXAMPLE.replace("1x!i16=0;", ""))
        self.settled(EXAMPLE, drop([4, 2]), EXAMPLE.replace(";2y!i16", ""))
        self.settled(EXAMPLE, drop([5, 1]), EXAMPLE.replace("1dot!b;", ""))
        self.settled(EXAMPLE, drop([5, 2]), EXAMPLE.replace(";2line!{1len!i8}", ""))
        self.settled(EXAMPLE, drop([6, 2]), EXAMPLE.replace(";2val?i32", ""))

    def test_only_this_field(self):
        self.settled("{1a!{1a!b;2b!b};2b!{1a!b;2b!b}}", drop([1, 2]), "{1a!{1a!b};2b!{1a!b;2b!b}}")
        self.settled("{5a!b;50b!b;500c!b}", drop([50]), "{5a!b;500c!b}")

    def test_no_field(self):
        self.refused_without_field(drop)
        self.refused(EXAMPLE, drop([]), -4)
        self.refused("{5a!b;9b!b}", drop([1]), -4)

    def test_the_only_field_of_a_group(self):
        self.refused("{1a!b}", drop([1]), -11)
        self.refused("{1a!{1b!b};2c!b}", drop([1, 1]), -11)
        self.refused("{1a!<1b!b>;2c!b}", drop([1, 1]), -11)
        self.refused("{1a!{1b!{1c!b;2d!b}}}", drop([1, 1]), -11)
        self.refused(nested(6), drop([1] * 6), -11)

    def test_a_key(self):
        self.settled("{1a%{1k!b;2v!i8=3}}", drop([1, 1]), "{1a%{2v!i8=3}}")
        for second in ("2v?i8", "2v*i8", "2v!{1x!b}", "2v!<1x!b>", "2v%{1k!b}"):
            self.refused("{1a%{1k!b;" + second + "}}", drop([1, 1]), -16)
        self.refused(EXAMPLE, drop([6, 1]), -16)

    def test_the_only_key(self):
        self.refused("{1a%{1k!b}}", drop([1, 1]), -11)

    def test_behind_a_key(self):
        self.settled("{1a%{1k!b;2v?i8}}", drop([1, 2]), "{1a%{1k!b}}")

    def test_a_whole_group(self):
        self.settled("{1a!b;2b!" + with_leaves(39) + "}", drop([2]), "{1a!b}")

    def test_one_behind_another(self):
        told = ask(hold(EXAMPLE), drop([4]), drop([4]), drop([5, 1]), drop([5, 2]), columns(), find("pos.x"))
        self.assertEqual(told[1:], [[0], [-4], [0], [-11], [6], [-4]])


if __name__ == "__main__":
    unittest.main()
