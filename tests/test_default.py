"""Promise 13: default gives a leaf a default, or takes it away."""

import unittest

from tests.asking import EXAMPLE, default, rekind, signs, with_length
from tests.changing import Changing


def byte_literal(bytes_of_it):
    return '"' + "".join(f"\\{byte:02x}" for byte in bytes_of_it) + '"'


class Taken(Changing):
    def test_away(self):
        for leaf, literal in (("b", "0"), ("i8", "-5"), ("t3", '"x"'), ("t3", '""')):
            self.settled("{1a!" + leaf + "=" + literal + ";2c!b}", default([1], ""), "{1a!" + leaf + ";2c!b}")
        self.settled(EXAMPLE, default([4, 1], ""), EXAMPLE.replace("=0", ""))

    def test_where_none_is(self):
        for path in ([1], [2], [3], [4], [4, 2], [5], [5, 1], [5, 2], [5, 2, 1], [6], [6, 1], [6, 2]):
            self.settled(EXAMPLE, default(path, ""), EXAMPLE)

    def test_no_field(self):
        self.refused_without_field(lambda path: default(path, ""))
        self.refused_without_field(lambda path: default(path, "0"))
        self.refused_without_field(lambda path: default(path, "x"))
        self.refused(EXAMPLE, default([], ""), -4)
        self.refused(EXAMPLE, default([], "0"), -4)


class Given(Changing):
    def given(self, leaf, literal):
        """The literal is taken, whether there is a default or not."""
        text = "{1a!" + leaf + "}"
        after = "{1a!" + leaf + "=" + literal + "}"
        self.settled(text, default([1], literal), after)
        self.settled(after, default([1], literal), after)

    def unfit(self, leaf, literal):
        self.refused("{1a!" + leaf + ";2c!b}", default([1], literal), -5)

    def test_bits(self):
        self.given("b", "0")
        self.given("b", "1")
        for literal in ("2", "9", "-1", "-0", "00", "01", "10", "0 ", " 0", "0;", "0}", "b", '"0"', '""', "=0", "="):
            self.unfit("b", literal)

    def test_whole_numbers(self):
        for literal in ("0", "1", "-1", "9", "10", "-10", "127", "-128"):
            self.given("i8", literal)
        for literal in ("128", "-129", "1000", "9" * 19, "9" * 20, "9" * 5000, "-" + "9" * 4999):
            self.unfit("i8", literal)
        for literal in ("-", "-0", "00", "01", "-01", "+1", "--1", "1-", "1 ", " 1", "1;", "1}", "1;3d!b", "1x", "x",
                        '"1"', '""', "=1", "1.0", "0" * 5000):
            self.unfit("i8", literal)

    def test_ends_of_every_range(self):
        for size in range(2, 65):
            half = 2 ** (size - 1)
            self.given(f"i{size}", str(half - 1))
            self.given(f"i{size}", str(-half))
            self.unfit(f"i{size}", str(half))
            self.unfit(f"i{size}", str(-half - 1))

    def test_texts(self):
        for literal in ('""', '"a"', '"abc"', '"a b"', '"{;}"', '"=0>"', '"\\00"', '"\\22\\5c\\7f"', '"\\ffa\\0a"'):
            self.given("t3", literal)
        for literal in ('"', '"abc', 'abc"', "abc", "0", "b", "''", '"""', '"a"b', '"a""', '"a" ', ' "a"', '"a";',
                        '"a"}', '="a"', '"\\', '"\\"', '"\\0', '"\\0"', '"\\00', "\\22", "\\"):
            self.unfit("t3", literal)

    def test_sizes_of_texts(self):
        self.unfit("t3", '"abcd"')
        self.unfit("t3", '"\\00\\00\\00\\00"')
        self.given("t3", '"\\00\\00\\00"')
        self.given("t1", '"\\5c"')
        self.unfit("t1", '"\\5ca"')
        self.given("t999", '"' + "x" * 999 + '"')
        self.unfit("t999", '"' + "x" * 1000 + '"')

    def test_each_byte_as_itself(self):
        for byte in range(256):
            itself = 32 <= byte <= 126 and byte not in (34, 92)
            if itself:
                self.given("t1", '"' + chr(byte) + '"')
            else:
                self.unfit("t1", chr(34) + chr(byte) + chr(34))

    def test_each_byte_behind_a_backslash(self):
        for byte in range(256):
            itself = 32 <= byte <= 126 and byte not in (34, 92)
            if itself:
                self.unfit("t1", byte_literal([byte]))
            else:
                self.given("t1", byte_literal([byte]))

    def test_digits_of_base_sixteen(self):
        for pair in ("0A", "0F", "A0", "FF", "0g", "g0", "/0", ":0", "0/", "0:", "0`", "-1", " 1", "x0", "0x"):
            self.unfit("t9", '"\\' + pair + '"')

    def test_literals_of_another_kind(self):
        for leaf, literals in (("b", ("2", '"1"', "-1")), ("i8", ('"1"', '""')), ("t3", ("1", "0", "-1"))):
            for literal in literals:
                self.unfit(leaf, literal)

    def test_one_behind_another(self):
        calls = [default([1], "5"), default([1], "500"), default([1], "-6"), rekind([1], "i16"), default([1], "500")]
        self.holds("{1a!i8}", calls, [[0], [-5], [0], [0], [0]], "{1a!i16=500}")


class Where(Changing):
    def test_a_group(self):
        for kind in ("{1x!b}", "<1x!b>", "{1x!i8=1}"):
            for literal in ("0", "1", '""', "x", "{1x!b}"):
                self.refused("{1a!" + kind + "}", default([1], literal), -5)

    def test_other_modes(self):
        for mode in "?*":
            for leaf, literal in (("b", "1"), ("i8", "-5"), ("t3", '"x"')):
                text = "{1a" + mode + leaf + "}"
                self.refused(text, default([1], literal), -19)
                self.settled(text, default([1], ""), text)
            # the literal is looked at before the mode
            self.refused("{1a" + mode + "i8}", default([1], "128"), -5)

    def test_a_choice(self):
        self.refused("{1a!<1x!b;2y!t3>}", default([1, 1], "0"), -19)
        self.refused("{1a!<1x!b;2y!t3>}", default([1, 2], '""'), -19)
        self.refused("{1a!<1x!b;2y!t3>}", default([1, 1], "2"), -5)
        self.settled("{1a!<1x!{1y!b}>}", default([1, 1, 1], "1"), "{1a!<1x!{1y!b=1}>}")

    def test_a_key(self):
        self.settled("{1a%{1k!b;2v?b}}", default([1, 1], "1"), "{1a%{1k!b=1;2v?b}}")

    def test_fields_of_the_example(self):
        self.settled(EXAMPLE, default([1], "-2147483648"), EXAMPLE.replace("i32;2", "i32=-2147483648;2"))
        self.settled(EXAMPLE, default([4, 1], "7"), EXAMPLE.replace("=0", "=7"))
        self.settled(EXAMPLE, default([5, 2, 1], "7"), EXAMPLE.replace("i8", "i8=7"))


class Length(Changing):
    def test_the_whole_text(self):
        short = '"' + "\\00" * 662 + 'xx"'
        self.settled("{1a!t999}", default([1], short), "{1a!t999=" + short + "}")
        self.refused("{1a!t999}", default([1], '"' + "\\00" * 663 + '"'), -20)
        self.settled(with_length(1995)[:-1] + ";3c!b}", default([2], '"x"'),
                     with_length(1013)[:-2] + 'x";3c!b}')

    def test_a_literal_longer_than_a_schema(self):
        self.refused("{1a!t999}", default([1], byte_literal([0] * 999)), -20)
        self.refused("{1a!t999}", default([1], byte_literal([0] * 1000)), -5)
        self.refused("{1a?t999}", default([1], byte_literal([255] * 999)), -20)
        self.refused("{1a!t999}", default([1], "x" * 5000), -5)
        self.refused("{1a!t999}", default([1], signs('"' + "x" * 4998 + '"')), -5)


if __name__ == "__main__":
    unittest.main()
