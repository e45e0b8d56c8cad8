"""Promise 15: keep tells the text of the shape that some columns leave, and leaves what is held."""

import itertools
import unittest

from tests.asking import EXAMPLE, ask, columns, hold, keep, nested, show, shown, with_leaves, with_length
from tests.changing import FAR, Changing, questions


class Keep(Changing):
    def kept(self, text, numbers, shape):
        with self.subTest(text=text[:60], numbers=numbers):
            told = ask(hold(text), keep(numbers), show(), keep(numbers), hold(shape))
            self.assertEqual(told, [[0], shown(shape), shown(text), shown(shape), [0]])

    def test_each_column_of_the_example(self):
        shapes = ["{1id!i32}", "{2name?t20}", "{3tags*t8}", "{4pos?{1x!i16=0}}", "{4pos?{2y!i16}}",
                  "{5shape!<1dot!b>}", "{5shape!<2line!{1len!i8}>}", "{6attr%{1key!t4}}", "{6attr*{2val?i32}}"]
        for number, shape in enumerate(shapes):
            self.kept(EXAMPLE, [number], shape)

    def test_several(self):
        self.kept(EXAMPLE, [0, 4, 6], "{1id!i32;4pos?{2y!i16};5shape!<2line!{1len!i8}>}")
        self.kept(EXAMPLE, [1, 7, 8], "{2name?t20;6attr%{1key!t4;2val?i32}}")
        self.kept(EXAMPLE, [3, 8], "{4pos?{1x!i16=0};6attr*{2val?i32}}")

    def test_all(self):
        self.kept(EXAMPLE, list(range(9)), EXAMPLE)
        self.kept(with_leaves(40), list(range(40)), with_leaves(40))
        self.kept(with_length(2000), [0, 1], with_length(2000))

    def test_any_order(self):
        for numbers in itertools.permutations([0, 4, 8]):
            self.kept(EXAMPLE, list(numbers), "{1id!i32;4pos?{2y!i16};6attr*{2val?i32}}")
        self.kept(EXAMPLE, list(reversed(range(9))), EXAMPLE)

    def test_more_than_once(self):
        self.kept(EXAMPLE, [0, 0], "{1id!i32}")
        self.kept(EXAMPLE, [8, 7, 8, 7], "{6attr%{1key!t4;2val?i32}}")
        self.kept(EXAMPLE, [2] * 100, "{3tags*t8}")
        self.kept("{1a!b}", [0] * 100, "{1a!b}")

    def test_keys(self):
        text = "{1a%{1k!b;2v%{3k!t4;4w!i8;5x?b}}}"
        self.kept(text, [0], "{1a%{1k!b}}")
        self.kept(text, [1], "{1a*{2v%{3k!t4}}}")
        self.kept(text, [2], "{1a*{2v*{4w!i8}}}")
        self.kept(text, [0, 2], "{1a%{1k!b;2v*{4w!i8}}}")
        self.kept(text, [1, 3], "{1a*{2v%{3k!t4;5x?b}}}")
        self.kept(text, [2, 3], "{1a*{2v*{4w!i8;5x?b}}}")

    def test_a_field_that_could_be_a_key_is_none(self):
        # what stands behind the key has the form of a key, but tells nothing apart
        self.kept("{1a%{1k!b;2j!b}}", [1], "{1a*{2j!b}}")

    def test_other_modes_stay(self):
        self.kept("{1a*{1k!b;2v!b};2c?{1k!b;2v?b};3d!{1k!b;2v*b}}", [1, 3, 5], "{1a*{2v!b};2c?{2v?b};3d!{2v*b}}")

    def test_defaults_stay(self):
        self.kept('{1a!i8=-7;2b!t9="\\00\\22x";3c!b=1}', [0, 1], '{1a!i8=-7;2b!t9="\\00\\22x"}')

    def test_deep_groups(self):
        self.kept(nested(6), [0], nested(6))
        self.kept("{1a!{1b!{1c!{1d!{1e!{1f!b;2g!b}};2h!b}}}}", [1], "{1a!{1b!{1c!{1d!{1e!{2g!b}}}}}}")

    def test_numbers_of_no_column(self):
        for numbers in ([], [-1], [9], [FAR], [-FAR], [0, 9], [9, 0], [0, -1], [-1, 0], [0, 1, 2, 40], [-9],
                        list(range(10)), [0] * 99 + [9], [0] * 99 + [-1]):
            self.refused(EXAMPLE, keep(numbers), -3)
        self.refused("{1a!b}", keep([1]), -3)
        self.refused(with_leaves(40), keep([40]), -3)

    def test_what_is_held_stays(self):
        asked = questions(EXAMPLE)
        told = ask(hold(EXAMPLE), keep([8]), *asked, keep([0, 3]), columns())
        self.assertEqual(told[2:-2], ask(hold(EXAMPLE), *asked)[1:])
        self.assertEqual(told[-2:], [shown("{1id!i32;4pos?{1x!i16=0}}"), [9]])


if __name__ == "__main__":
    unittest.main()
