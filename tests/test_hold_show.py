"""Promises 2 and 4: hold and show, and what check and refusals leave."""

import unittest

from tests.asking import EXAMPLE, ask, check, column, columns, find, hold, name, show, shown, signs, with_length


class HoldAndShow(unittest.TestCase):
    def test_a_schema_is_held_and_shown(self):
        for text in ("{1a!b}", EXAMPLE, '{1a!t3="\\00\\5c\\22";2b!i8=-7;3c!b=1}', with_length(2000)):
            with self.subTest(text=text[:60]):
                self.assertEqual(ask(hold(text), show()), [[0], shown(text)])

    def test_show_again_is_the_same(self):
        self.assertEqual(ask(hold(EXAMPLE), show(), show())[1:], [shown(EXAMPLE)] * 2)

    def test_the_last_schema_is_held(self):
        told = ask(hold(EXAMPLE), columns(), hold("{7q!b}"), show(), columns(), find("id"), find("q"))
        self.assertEqual(told, [[0], [9], [0], shown("{7q!b}"), [1], [-4], [0, 1, 7]])

    def test_no_schema_is_refused(self):
        for text in ("", "{1a!i8", "{1a!i8;1b!b}", "{1a!b;2a!b}", "{1a!<1b?b>}", "{1a!i1}", "{1a%b}", "{1a?b=1}",
                     "x" * 5000, with_length(2001), EXAMPLE + "}"):
            with self.subTest(text=text[:60]):
                self.assertEqual(ask(hold(text)), [[-1]])

    def test_what_is_no_schema_leaves_what_is_held(self):
        told = ask(hold(EXAMPLE), hold("{1a!b"), show(), columns(), column(0), find("id"), name([1]))
        self.assertEqual(told[:4], [[0], [-1], shown(EXAMPLE), [9]])
        self.assertEqual(told[4:], [[1, 32, 0, 0, 1, 1], [0, 1, 1], [2] + signs("id")])

    def test_check_leaves_what_is_held(self):
        told = ask(hold("{1a!b}"), check(EXAMPLE), show(), check("{"), show(), check(with_length(2001)), show())
        self.assertEqual(told[1::2], [[0, len(EXAMPLE)], [1, 1], [10, 2000]])
        self.assertEqual(told[2::2], [shown("{1a!b}")] * 3)

    def test_while_nothing_is_held(self):
        calls = [show(), columns(), column(0), column(-1), find("a"), find(""), name([1]), name([])]
        self.assertEqual(ask(*calls), [[-2]] * 8)
        self.assertEqual(ask(hold("{1a!b"), *calls), [[-1]] + [[-2]] * 8)
        self.assertEqual(ask(check("{1a!b}"), *calls), [[0, 6]] + [[-2]] * 8)

    def test_refusals_leave_what_is_held(self):
        told = ask(hold(EXAMPLE), column(9), column(-1), find("x"), name([]), name([7]), show())
        self.assertEqual(told[1:], [[-3], [-3], [-4], [-4], [-4], shown(EXAMPLE)])


if __name__ == "__main__":
    unittest.main()
