"""Promise 14 over all changes: the order of refusals, what they leave, and many changes one behind another."""

import random
import unittest

from tests import splicing
from tests.asking import (EXAMPLE, add, ask, default, drop, hold, keep, nested, rekind, remode, rename, show, shown,
                          with_leaves, with_length)
from tests.changing import Changing, questions

CALLS = {"add": add, "drop": drop, "rename": rename, "remode": lambda path, number: remode(number, path),
         "rekind": rekind, "default": default}

LEAVES = ("b", "i2", "i8", "i64", "t1", "t3", "t40")
KINDS = LEAVES + ("{1a!b}", "<1a!b;3c!i8>", "{1k!t3;5v?i8=1}", "{2k!i8=-3;4w*{1x!t9}}", "{1q?b}", "{3k!b;4l%{1k!b}}",
                  "<2d!{1e*b}>", "i1", "b=1", "", "b;2c!b", "}", "{1a!{1a!{1a!{1a!b}}}}")
NAMES = ("a", "b", "c", "k", "v", "abcdefghijkl", "abcdefghijklm", "x_9", "_", "", "A")
LITERALS = ("", "", "0", "1", "2", "-1", "-2", "127", "128", "-129", "9223372036854775807", '""', '"a"', '"ab"',
            '"\\00\\22;}"', '"\\41"', '"', "x", "-0", "1;2b!b")


class Order(Changing):
    def test_no_field_before_an_unfit_text(self):
        for path in ([9], [1, 1], [4, 9]):
            for call in (add(path, ""), rename(path, ""), remode(4, path), rekind(path, ""), default(path, "x")):
                self.refused(EXAMPLE, call, -4)

    def test_an_unfit_text_before_what_it_would_leave(self):
        full = with_length(2000)
        self.refused(full, add([], "3c!b;"), -5)
        self.refused(full, rename([1], "A" * 50), -5)
        self.refused(full, rekind([1], "t9999"), -5)
        self.refused(full, default([1], '"' + "x" * 1000 + '"'), -5)
        self.refused(full, remode(9, [1]), -6)
        self.refused("{1c!<1a!b>}", remode(9, [1, 1]), -6)
        self.refused("{1c!<1a!b>}", default([1, 1], "9"), -5)

    def test_each_kind_of_fault(self):
        self.refused("{1a!b}", drop([1]), -11)
        self.refused("{1a!b}", add([], "1c!b"), -12)
        self.refused("{1a!b;2c!b}", rename([1], "c"), -13)
        self.refused("{1a!<1c!b>}", remode(1, [1, 1]), -14)
        self.refused("{1a!i8=100}", rekind([1], "i7"), -15)
        self.refused("{1a%{1k!b;2v?b}}", drop([1, 1]), -16)
        self.refused(nested(6), rekind([1] * 6, "{1c!b}"), -17)
        self.refused(with_leaves(40), rekind([7], "{1c!b;2d!b}"), -18)
        self.refused("{1a?b}", default([1], "0"), -19)
        self.refused(with_length(2000), rename([1], "aa"), -20)

    def test_the_first_fault_of_the_text_counts(self):
        # the number twice stands within the record that has lost its key, and that is read whole first
        self.refused("{1a%{1k!b}}", add([1], "1j?b"), -12)
        self.refused("{1a%{2k!b};3c!b}", add([1], "1j?b"), -16)
        self.refused("{1a%{2k!b=0}}", remode(1, [1, 2]), -19)
        self.refused("{1a!b=0}", remode(3, [1]), -16)
        self.refused("{1a!<1c!b>}", add([1], "2d?{1e!b};3c!b"), -14)


class OneBehindAnother(Changing):
    def test_written_out(self):
        steps = [
            (add([], "2b?{1x!i8;3z*t4}"), 0, "{1a!b;2b?{1x!i8;3z*t4}}"),
            (add([2], "2y!<1p!b;2q!t9>"), 0, "{1a!b;2b?{1x!i8;2y!<1p!b;2q!t9>;3z*t4}}"),
            (remode(3, [2]), 0, "{1a!b;2b%{1x!i8;2y!<1p!b;2q!t9>;3z*t4}}"),
            (drop([2, 1]), -16, "{1a!b;2b%{1x!i8;2y!<1p!b;2q!t9>;3z*t4}}"),
            (default([2, 1], "-7"), 0, "{1a!b;2b%{1x!i8=-7;2y!<1p!b;2q!t9>;3z*t4}}"),
            (rekind([2, 1], "i3"), -15, "{1a!b;2b%{1x!i8=-7;2y!<1p!b;2q!t9>;3z*t4}}"),
            (rekind([2, 1], "i4"), 0, "{1a!b;2b%{1x!i4=-7;2y!<1p!b;2q!t9>;3z*t4}}"),
            (rename([2, 2, 1], "q"), -13, "{1a!b;2b%{1x!i4=-7;2y!<1p!b;2q!t9>;3z*t4}}"),
            (drop([2, 2, 2]), 0, "{1a!b;2b%{1x!i4=-7;2y!<1p!b>;3z*t4}}"),
            (rename([2, 2, 1], "q"), 0, "{1a!b;2b%{1x!i4=-7;2y!<1q!b>;3z*t4}}"),
            (drop([2, 2, 1]), -11, "{1a!b;2b%{1x!i4=-7;2y!<1q!b>;3z*t4}}"),
            (rekind([2, 2], "t2"), 0, "{1a!b;2b%{1x!i4=-7;2y!t2;3z*t4}}"),
            (default([2, 2], '"\\22\\00"'), 0, '{1a!b;2b%{1x!i4=-7;2y!t2="\\22\\00";3z*t4}}'),
            (remode(2, [2, 2]), -19, '{1a!b;2b%{1x!i4=-7;2y!t2="\\22\\00";3z*t4}}'),
            (drop([2, 1]), 0, '{1a!b;2b%{2y!t2="\\22\\00";3z*t4}}'),
            (drop([1]), 0, '{2b%{2y!t2="\\22\\00";3z*t4}}'),
            (rename([2], "a"), 0, '{2a%{2y!t2="\\22\\00";3z*t4}}'),
            (default([2, 2], ""), 0, "{2a%{2y!t2;3z*t4}}"),
        ]
        calls = [call for call, answer, text in steps]
        told = [[answer] for call, answer, text in steps]
        for count in range(1, len(steps) + 1):
            self.holds("{1a!b}", calls[:count], told[:count], steps[count - 1][2])

    def test_up_to_the_limits_and_back(self):
        text = with_leaves(39)
        calls = [call for turn in range(60) for call in (add([], "40a40!b"), add([], "41z!b"), drop([40]))]
        self.holds(text, calls, [[0], [-18], [0]] * 60, text)

    def test_another_schema_is_held(self):
        told = ask(hold(EXAMPLE), drop([1]), hold("{1a!b}"), add([], "2c!b"), hold("{"), show())
        self.assertEqual(told, [[0], [0], [0], [0], [-1], shown("{1a!b;2c!b}")])


class Compared(Changing):
    """With the changes made another way, in lines that are made up but the same each time."""

    def test_made_up_lines(self):
        for seed in range(60):
            with self.subTest(seed=seed):
                self.compare(random.Random(seed))

    def compare(self, chance):
        text = chance.choice((EXAMPLE, "{1a!b}", '{1a%{1k!t3="x";2v?b};5c!<1a!i8;2b!{1a!b=1}>}', nested(6)))
        calls = [hold(text)]
        expected = [[0]]
        for turn in range(60):
            if chance.randrange(6) == 0:
                count = len([spot for spot in splicing.spots(text) if spot.leaf])
                numbers = [chance.randrange(-1 if chance.randrange(9) == 0 else 0, count)
                           for turn in range(chance.randrange(6))]
                left = splicing.shape(text, numbers)
                calls.append(keep(numbers))
                expected.append([left] if isinstance(left, int) else shown(left))
            else:
                call, arguments = made_up(chance, text)
                refusal, text = splicing.change(text, call, arguments)
                calls.append(CALLS[call](*arguments))
                expected.append([refusal])
            calls.append(show())
            expected.append(shown(text))
        asked = questions(text)
        told = ask(*calls, *asked)
        self.assertEqual(told[:len(calls)], expected)
        self.assertEqual(told[len(calls):], ask(hold(text), *asked)[1:])


def made_up(chance, text):
    """A call's name and its arguments, the path first."""
    # fields are put in often, and mostly where they may be, so that there is something to change
    call = chance.choice(("add", "add", "add", "drop", "rename", "remode", "rekind", "default", "default"))
    path = chance.choice(made_up_paths(chance, text, call))
    if call == "add":
        return call, [path, ";".join(made_up_field(chance) for turn in range(chance.randrange(1, 3)))]
    if call == "drop":
        return call, [path]
    if call == "rename":
        return call, [path, chance.choice(NAMES)]
    if call == "remode":
        return call, [path, chance.randrange(-1, 5)]
    return call, [path, chance.choice(KINDS if call == "rekind" else LITERALS)]


def made_up_paths(chance, text, call):
    found = splicing.spots(text)
    if call == "add" and chance.randrange(8) > 0:
        return [[]] + [spot.path for spot in found if not spot.leaf]
    if call == "default" and chance.randrange(8) > 0:
        return [spot.path for spot in found if spot.leaf]
    return [[], [chance.randrange(9)]] + [spot.path for spot in found]


def made_up_field(chance):
    name = chance.choice(NAMES[:6]) if chance.randrange(3) == 0 else f"n{chance.randrange(30)}"
    return f"{chance.randrange(1, 40)}{name}{chance.choice('!!!?*%')}{chance.choice(KINDS)}"


if __name__ == "__main__":
    unittest.main()
