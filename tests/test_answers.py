"""The interface: how calls stand in the list handed in, and answers in the list given back."""

import unittest

from fieldplan.schemas import answers
from tests.asking import (EXAMPLE, add, ask, check, column, columns, default, drop, find, hold, keep, name, rekind,
                          remode, rename, show, shown, signs, with_length)

SMALL = signs("{1a!b}")
# each change once settled, once refused
CHANGES = (add([4], "3z!b") + add([], "1q!b") + drop([2]) + drop([]) + rename([3], "t") + rename([1], "")
           + remode(2, [4]) + remode(9, [4]) + rekind([1], "i8") + rekind([1], "b=0") + default([1], "-5")
           + default([1], "500") + keep([8, 1, 1]) + keep([]))


class Form(unittest.TestCase):
    def test_written_out(self):
        calls = [0, 6] + SMALL + [1, 6] + SMALL + [2, 3, 4, 0, 4, 1, 5, 1, 97, 6, 1, 1, 6, 0]
        given = [2, 0, 6, 1, 0, 7, 6] + SMALL + [1, 1, 6, 0, 0, 0, 0, 1, 1, 1, -3, 3, 0, 1, 1, 2, 1, 97, 1, -4]
        self.assertEqual(answers(calls), given)

    def test_changes_written_out(self):
        calls = [1, 6] + SMALL
        given = [1, 0]
        calls += [7, 0, 8] + signs("2c!{1d!b") + [7, 0, 9] + signs("2c!{1d!b}") + [7, 1, 2, 4] + signs("2e?b")
        given += [1, -5, 1, 0, 1, 0]
        calls += [8, 1, 1, 8, 2, 2, 9, 9, 1, 2, 2] + signs("zz") + [9, 2, 2, 1, 0]
        given += [1, 0, 1, -4, 1, 0, 1, -5]
        calls += [10, 3, 1, 2, 10, 4, 1, 2, 10, 2, 2, 2, 2, 11, 2, 2, 2, 2] + signs("i8") + [11, 1, 2, 0]
        given += [1, 0, 1, -6, 1, 0, 1, 0, 1, -5]
        calls += [12, 2, 2, 1, 1] + signs("1") + [12, 2, 2, 2, 1] + signs("1") + [12, 1, 2, 0]
        given += [1, 0, 1, -19, 1, 0]
        calls += [13, 0, 13, 1, 1, 13, 2, 1, 0, 2]
        given += [1, -3, 14, 13] + signs("{2zz*{2e*i8}}") + [21, 20] + signs("{2zz%{1d!b=1;2e*i8}}") + [21, 20]
        given += signs("{2zz%{1d!b=1;2e*i8}}")
        self.assertEqual(answers(calls), given)

    def test_empty_rows(self):
        self.assertEqual(answers([0, 0, 1, 0, 5, 0, 6, 0]), [2, 1, 0, 1, -1, 1, -2, 1, -2])
        rows = [7, 0, 0, 8, 0, 9, 0, 0, 10, 0, 0, 11, 0, 0, 12, 0, 0, 13, 0]
        self.assertEqual(answers(rows), [1, -2] * 7)
        self.assertEqual(answers([1, 6] + SMALL + rows), [1, 0, 1, -5] + [1, -4] * 5 + [1, -3])

    def test_what_a_refused_call_is_handed_is_passed_over(self):
        calls = [4, 0, 5, 2, 1, 6, 6, 3, 1, 2, 3, 1, 6] + SMALL + [4, 2, 5, 2, 1, 6, 6, 3, 1, 2, 3, 3]
        self.assertEqual(answers(calls), [1, -2, 1, -2, 1, -2, 1, 0, 1, -3, 1, -4, 1, -4, 1, 1])

    def test_whole_numbers_in_a_list(self):
        given = answers([0, 6] + SMALL + [1, 6] + SMALL + [2, 3, 4, 0, 5, 1, 97, 6, 1, 1])
        self.assertIs(type(given), list)
        self.assertEqual({type(number) for number in given}, {int})

    def test_a_long_line(self):
        told = ask(hold(EXAMPLE), *[column(number % 9) for number in range(399)])
        self.assertEqual(len(told), 400)
        self.assertEqual(told[1:10] * 44, told[1:397])
        self.assertEqual(told[397:], told[1:4])

    def test_a_long_line_of_changes(self):
        text = with_length(1995)
        told = ask(hold(text), *[call for turn in range(133) for call in (add([], "3c!b"), show(), drop([3]))])
        self.assertTrue(told[1:] == [[0], shown(text[:-1] + ";3c!b}"), [0]] * 133)

    def test_many_long_answers(self):
        text = with_length(2000)
        told = ask(hold(text), *[show() for turn in range(399)])
        # not assertEqual, which would write out where such long lists differ
        self.assertTrue(told[1:] == [[2000] + signs(text)] * 399)


class Nothing(unittest.TestCase):
    def test_what_is_handed_in_is_not_changed(self):
        calls = hold(EXAMPLE) + check("{1a!") + show() + columns() + column(3) + find("pos.x") + name([4, 1])
        before = list(calls)
        answers(calls)
        self.assertEqual(calls, before)

    def test_what_is_given_back_may_be_changed(self):
        calls = hold(EXAMPLE) + show()
        first = answers(calls)
        expected = list(first)
        first.clear()
        self.assertEqual(answers(calls), expected)

    def test_nothing_is_kept(self):
        calls = show() + hold(EXAMPLE) + show() + column(8) + find("attr") + name([6])
        first = answers(calls)
        self.assertEqual(answers(calls), first)
        self.assertEqual(first[:2], [1, -2])
        self.assertEqual(answers(show()), [1, -2])
        self.assertEqual(answers(columns()), [1, -2])


class NothingBehindChanges(unittest.TestCase):
    def test_what_is_handed_in_is_not_changed(self):
        calls = hold(EXAMPLE) + CHANGES + show()
        before = list(calls)
        answers(calls)
        self.assertEqual(calls, before)

    def test_settled_and_refused(self):
        told = answers(hold(EXAMPLE) + CHANGES)
        expected = [1, 0, 1, 0, 1, -12, 1, 0, 1, -4, 1, 0, 1, -5, 1, 0, 1, -6, 1, 0, 1, -5, 1, 0, 1, -5]
        self.assertEqual(told[:26], expected)
        self.assertEqual(told[-2:], [1, -3])

    def test_a_second_time_is_as_the_first(self):
        calls = hold(EXAMPLE) + CHANGES + show() + CHANGES + show()
        first = answers(calls)
        self.assertEqual(answers(list(calls)), first)
        self.assertEqual(answers(calls), first)
        self.assertEqual(answers(hold(EXAMPLE) + show()), [1, 0, len(EXAMPLE) + 1] + shown(EXAMPLE))
        self.assertEqual(answers(CHANGES), [1, -2] * 14)

    def test_what_is_given_back_may_be_changed(self):
        calls = hold(EXAMPLE) + CHANGES + show()
        first = answers(calls)
        expected = list(first)
        first.clear()
        self.assertEqual(answers(calls), expected)


if __name__ == "__main__":
    unittest.main()
