"""The interface: how calls stand in the list handed in, and answers in the list given back."""

import unittest

from fieldplan.schemas import answers
from tests.asking import EXAMPLE, ask, check, column, columns, find, hold, name, show, signs, with_length

SMALL = signs("{1a!b}")


class Form(unittest.TestCase):
    def test_written_out(self):
        calls = [0, 6] + SMALL + [1, 6] + SMALL + [2, 3, 4, 0, 4, 1, 5, 1, 97, 6, 1, 1, 6, 0]
        given = [2, 0, 6, 1, 0, 7, 6] + SMALL + [1, 1, 6, 0, 0, 0, 0, 1, 1, 1, -3, 3, 0, 1, 1, 2, 1, 97, 1, -4]
        self.assertEqual(answers(calls), given)

    def test_empty_rows(self):
        self.assertEqual(answers([0, 0, 1, 0, 5, 0, 6, 0]), [2, 1, 0, 1, -1, 1, -2, 1, -2])

    def test_what_a_refused_call_is_handed_is_passed_over(self):
        calls = [4, 0, 5, 2, 1, 6, 6, 3, 1, 2, 3, 1, 6] + SMALL + [4, 2, 5, 2, 1, 6, 6, 3, 1, 2, 3, 3]
        self.assertEqual(answers(calls), [1, -2, 1, -2, 1, -2, 1, 0, 1, -3, 1, -4, 1, -4, 1, 1])

    def test_whole_numbers_in_a_list(self):
        given = answers([0, 6] + SMALL + [1, 6] + SMALL + [2, 3, 4, 0, 5, 1, 97, 6, 1, 1])
        self.assertIs(type(given), list)
        self.assertEqual({type(number) for number in given}, {int})

    def test_a_long_line(self):
        told = ask(hold(EXAMPLE), *[column(number % 9) for number in range(399)])
        self.assertEqual(len(told), 400)
        self.assertEqual(told[1:10] * 44, told[1:397])
        self.assertEqual(told[397:], told[1:4])

    def test_many_long_answers(self):
        text = with_length(2000)
        told = ask(hold(text), *[show() for turn in range(399)])
        # not assertEqual, which would write out where such long lists differ
        self.assertTrue(told[1:] == [[2000] + signs(text)] * 399)


class Nothing(unittest.TestCase):
    def test_what_is_handed_in_is_not_changed(self):
        calls = hold(EXAMPLE) + check("{1a!") + show() + columns() + column(3) + find("pos.x") + name([4, 1])
        before = list(calls)
        answers(calls)
        self.assertEqual(calls, before)

    def test_what_is_given_back_may_be_changed(self):
        calls = hold(EXAMPLE) + show()
        first = answers(calls)
        expected = list(first)
        first.clear()
        self.assertEqual(answers(calls), expected)

    def test_nothing_is_kept(self):
        calls = show() + hold(EXAMPLE) + show() + column(8) + find("attr") + name([6])
        first = answers(calls)
        self.assertEqual(answers(calls), first)
        self.assertEqual(first[:2], [1, -2])
        self.assertEqual(answers(show()), [1, -2])
        self.assertEqual(answers(columns()), [1, -2])


if __name__ == "__main__":
    unittest.main()
