"""Promises 5 and 6: how many columns there are, and each column's kind, levels and path."""

import unittest

from tests.asking import EXAMPLE, ask, column, columns, hold, nested, with_leaves

FAR = 10 ** 18


def counted(text):
    return ask(hold(text), columns())[1]


def told(text, number):
    return ask(hold(text), column(number))[1]


class Count(unittest.TestCase):
    def test_how_many(self):
        self.assertEqual(counted("{1a!b}"), [1])
        self.assertEqual(counted(EXAMPLE), [9])
        self.assertEqual(counted(with_leaves(40)), [40])
        self.assertEqual(counted(nested(6)), [1])


class OneColumn(unittest.TestCase):
    def test_the_example(self):
        expected = [
            [1, 32, 0, 0, 1, 1],
            [2, 20, 0, 1, 1, 2],
            [2, 8, 1, 1, 1, 3],
            [1, 16, 0, 1, 2, 4, 1],
            [1, 16, 0, 1, 2, 4, 2],
            [0, 0, 0, 1, 2, 5, 1],
            [1, 8, 0, 1, 3, 5, 2, 1],
            [2, 4, 1, 1, 2, 6, 1],
            [1, 32, 1, 2, 2, 6, 2],
        ]
        self.assertEqual(ask(hold(EXAMPLE), *[column(number) for number in range(9)])[1:], expected)

    def test_numbers_of_no_column(self):
        for number in (-1, -9, -10, 9, 10, 40, -FAR, FAR):
            with self.subTest(number=number):
                self.assertEqual(told(EXAMPLE, number), [-3])
        for number in (-1, 1):
            self.assertEqual(told("{1a!b}", number), [-3])

    def test_the_last_of_forty(self):
        self.assertEqual(told(with_leaves(40), 39), [0, 0, 0, 0, 1, 40])
        self.assertEqual(told(with_leaves(40), 40), [-3])

    def test_kinds_and_sizes(self):
        text = "{1a!b;2b!i2;3c!i64;4d!t1;5e!t999}"
        sizes = [told(text, number)[:2] for number in range(5)]
        self.assertEqual(sizes, [[0, 0], [1, 2], [1, 64], [2, 1], [2, 999]])

    def test_a_default_changes_nothing(self):
        self.assertEqual(told("{1a!i8=5}", 0), told("{1a!i8}", 0))

    def test_levels_of_each_mode(self):
        text = "{1a!b;2b?b;3c*b;4d%{1k!b}}"
        levels = [told(text, number)[2:4] for number in range(4)]
        self.assertEqual(levels, [[0, 0], [0, 1], [1, 1], [1, 1]])

    def test_levels_in_a_choice(self):
        self.assertEqual(told("{1a!<1b!b>}", 0), [0, 0, 0, 1, 2, 1, 1])
        self.assertEqual(told("{1a?<1b!b>}", 0), [0, 0, 0, 2, 2, 1, 1])
        self.assertEqual(told("{1a*<1b!b>}", 0), [0, 0, 1, 2, 2, 1, 1])
        self.assertEqual(told("{1a!<1b!<1c!b>>}", 0), [0, 0, 0, 2, 3, 1, 1, 1])
        self.assertEqual(told("{1a!<1b!{1c!b}>}", 0), [0, 0, 0, 1, 3, 1, 1, 1])

    def test_levels_grow_along_the_path(self):
        self.assertEqual(told("{1a*" * 6 + "b" + "}" * 6, 0), [0, 0, 6, 6, 6, 1, 1, 1, 1, 1, 1])
        self.assertEqual(told("{1a?" * 6 + "b" + "}" * 6, 0), [0, 0, 0, 6, 6, 1, 1, 1, 1, 1, 1])
        self.assertEqual(told(nested(6), 0), [0, 0, 0, 0, 6, 1, 1, 1, 1, 1, 1])
        self.assertEqual(told("{1a%{1k!b;2b*{3c?{4d!b}}}}", 1), [0, 0, 2, 3, 4, 1, 2, 3, 4])

    def test_a_field_behind_a_group_starts_anew(self):
        self.assertEqual(told("{1a*{1b?b;2c!b};999d!b}", 1), [0, 0, 1, 1, 2, 1, 2])
        self.assertEqual(told("{1a*{1b?b;2c!b};999d!b}", 2), [0, 0, 0, 0, 1, 999])


if __name__ == "__main__":
    unittest.main()
