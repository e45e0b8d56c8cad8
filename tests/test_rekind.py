"""Promise 13: rekind gives a field another kind, and leaves its default."""

import unittest

from tests.asking import EXAMPLE, default, nested, rekind, remode, with_leaves, with_length
from tests.changing import Changing


class Kinds(Changing):
    def test_leaf_kinds(self):
        for kind in ("b", "i2", "i64", "t1", "t999"):
            for before in ("b", "i8", "t3", "{1x!b}", "<1x!b>"):
                self.settled("{1a?" + before + ";2c!b}", rekind([1], kind), "{1a?" + kind + ";2c!b}")

    def test_groups(self):
        for kind in ("{1x!b}", "<1x!b>", "{1x?i8;2y*{1z!t3}}", "<1x!{1y?b};2z!t9>", '{1x!t9="a\\22";2y%{1k!b}}'):
            for before in ("b", "i8", "t3", "{1q!b}", "<1q!b>"):
                self.settled("{1a*" + before + "}", rekind([1], kind), "{1a*" + kind + "}")

    def test_fields_of_the_example(self):
        self.settled(EXAMPLE, rekind([4, 2], "t7"), EXAMPLE.replace("2y!i16", "2y!t7"))
        self.settled(EXAMPLE, rekind([5, 2], "b"), EXAMPLE.replace("{1len!i8}", "b"))
        self.settled(EXAMPLE, rekind([5, 2, 1], "<1m!b>"), EXAMPLE.replace("1len!i8", "1len!<1m!b>"))
        self.settled(EXAMPLE, rekind([6, 1], "i4"), EXAMPLE.replace("1key!t4", "1key!i4"))

    def test_no_field(self):
        self.refused_without_field(lambda path: rekind(path, "b"))
        self.refused_without_field(lambda path: rekind(path, "x"))
        self.refused(EXAMPLE, rekind([], "b"), -4)
        self.refused(EXAMPLE, rekind([], ""), -4)


class Text(Changing):
    def test_no_kinds(self):
        for text in ("", "x", "B", "i", "t", "i0", "i1", "i65", "i08", "t0", "t01", "t1000", "b1", "8", " b", "b ",
                     "{}", "<>", "{1x!b", "<1x!b", "<1x?b>", "{1x!b>", "{x!b}", "{1x%b}", "{1x!b;1y!b}", "!b", "1a!b",
                     ";", "b;"):
            self.refused("{1q?i8}", rekind([1], text), -5)

    def test_bytes_beyond_the_signs(self):
        for byte in (0, 10, 127, 255):
            self.refused("{1q?i8}", rekind([1], [byte]), -5)

    def test_a_second_field(self):
        for text in ("b;2c!b", "i8;2c?t3", "{1x!b};2c!b", "b=0;2c!b", "b;2c!b=0", "b;3d!b;4e!b"):
            self.refused("{1q?i8}", rekind([1], text), -5)

    def test_a_default(self):
        for text in ("b=0", "b=1", "i8=0", "i8=-3", 't3=""', 't3="x"', "b=", "{1x!b}=0"):
            self.refused("{1q!i8}", rekind([1], text), -5)
            self.refused("{1q!i8=1}", rekind([1], text), -5)
        self.settled("{1q!i8}", rekind([1], "{1x!b=1}"), "{1q!{1x!b=1}}")

    def test_a_closing_sign(self):
        for text in ("}", "b}", "b};2c!b", "b}{1x!b", "i8}}", "{1x!b}}", "<1x!b>>", "<1x!b>}"):
            self.refused("{1q!{1r?i8}}", rekind([1, 1], text), -5)

    def test_limits_of_the_text_alone(self):
        self.settled("{1q!b}", rekind([1], with_length(1995)), "{1q!" + with_length(1995) + "}")
        self.refused("{1q!b}", rekind([1], with_length(1996)), -5)
        self.refused("{1q!b}", rekind([1], "x" * 5000), -5)
        self.settled("{1q!b}", rekind([1], nested(5)), "{1q!" + nested(5) + "}")
        self.refused("{1q!b}", rekind([1], nested(6)), -5)
        self.settled("{1q!b}", rekind([1], with_leaves(40)), "{1q!" + with_leaves(40) + "}")
        self.refused("{1q!b}", rekind([1], with_leaves(41)), -5)


class Settling(Changing):
    def test_length(self):
        self.refused("{1qq!b}", rekind([1], with_length(1995)), -20)
        self.refused(with_length(1995)[:-1] + ";3c!b}", rekind([3], "i8"), -20)

    def test_depth(self):
        self.refused(nested(6), rekind([1] * 6, "{1x!b}"), -17)
        self.refused(nested(6), rekind([1] * 6, "<1x!b>"), -17)
        self.refused(nested(6), rekind([1] * 5, nested(2)), -17)
        self.settled(nested(6), rekind([1] * 5, "i8"), nested(5, "i8"))
        self.settled(nested(5), rekind([1] * 5, "<1x!b>"), nested(5, "<1x!b>"))

    def test_leaves(self):
        self.refused(with_leaves(40), rekind([1], "{1x!b;2y!b}"), -18)
        self.settled(with_leaves(40), rekind([1], "{1x!b}"), with_leaves(40).replace("1a1!b", "1a1!{1x!b}", 1))

    def test_a_keyed_field(self):
        self.settled("{1a%{1k!b}}", rekind([1], "{7k!t3;8v*b}"), "{1a%{7k!t3;8v*b}}")
        for kind in ("b", "i8", "<1k!b>", "{1k?b}", "{1k!{1j!b}}"):
            self.refused("{1a%{1k!b}}", rekind([1], kind), -16)

    def test_a_key(self):
        self.settled("{1a%{1k!b}}", rekind([1, 1], "t9"), "{1a%{1k!t9}}")
        self.refused("{1a%{1k!b}}", rekind([1, 1], "{1x!b}"), -16)
        self.refused("{1a%{1k!b}}", rekind([1, 1], "<1x!b>"), -16)


class Defaults(Changing):
    def turned(self, before, kind, after):
        """`before` and `after` are a kind with a default; after may be a refusal."""
        call = rekind([1], kind)
        if isinstance(after, int):
            self.refused("{1a!" + before + ";2c?b}", call, after)
        else:
            self.settled("{1a!" + before + ";2c?b}", call, "{1a!" + after + ";2c?b}")

    def test_bits_and_whole_numbers(self):
        for literal in "01":
            self.turned("b=" + literal, "i8", "i8=" + literal)
            self.turned("b=" + literal, "i2", "i2=" + literal)
            self.turned("b=" + literal, "b", "b=" + literal)
            self.turned("i8=" + literal, "b", "b=" + literal)
        for literal in ("2", "9", "-1", "10", "11", "12", "100", "-128"):
            self.turned("i8=" + literal, "b", -11)

    def test_back_again(self):
        calls = [rekind([1], "i64"), rekind([1], "b"), rekind([1], "i2"), default([1], "-2"), rekind([1], "b"),
                 default([1], "1"), rekind([1], "b")]
        self.holds("{1a!b=0}", calls, [[0], [0], [0], [0], [-11], [0], [0]], "{1a!b=1}")

    def test_smaller_and_greater_ranges(self):
        self.turned("i8=127", "i9", "i9=127")
        self.turned("i8=-128", "i64", "i64=-128")
        self.turned("i9=127", "i8", "i8=127")
        self.turned("i9=-128", "i8", "i8=-128")
        self.turned("i9=128", "i8", -15)
        self.turned("i9=-129", "i8", -15)
        self.turned("i64=9223372036854775807", "i63", -15)
        self.turned("i64=-9223372036854775808", "i63", -15)
        self.turned("i64=-9223372036854775808", "i64", "i64=-9223372036854775808")
        self.turned("i64=4611686018427387903", "i63", "i63=4611686018427387903")

    def test_smaller_and_greater_texts(self):
        self.turned('t3="abc"', "t4", 't4="abc"')
        self.turned('t4="abc"', "t3", 't3="abc"')
        self.turned('t3="abc"', "t2", -15)
        self.turned('t9=""', "t1", 't1=""')
        self.turned('t9="\\00\\22\\5c"', "t3", 't3="\\00\\22\\5c"')
        self.turned('t9="\\00\\22\\5c"', "t2", -15)

    def test_every_byte_of_a_text_stays(self):
        literal = '"'
        for byte in range(256):
            itself = 32 <= byte <= 126 and byte not in (34, 92)
            literal += chr(byte) if itself else f"\\{byte:02x}"
        self.turned("t999=" + literal + '"', "t256", "t256=" + literal + '"')
        self.turned("t999=" + literal + '"', "t255", -15)

    def test_a_number_behind_a_text(self):
        for before in ("b=0", "b=1", "i8=0", "i8=5", "i8=-5"):
            self.turned(before, "t9", -11)

    def test_a_text_behind_a_number(self):
        for before in ('t9=""', 't9="0"', 't9="1"', 't9="12"', 't9="\\00"'):
            self.turned(before, "i8", -11)
            self.turned(before, "b", -11)

    def test_behind_a_group(self):
        for before in ("b=0", "i8=-5", 't3="x"', 't3=""'):
            for kind in ("{1x!b}", "<1x!b>", "{1x!b=0}"):
                self.turned(before, kind, -19)

    def test_what_a_refused_change_leaves(self):
        calls = [rekind([1], "i4"), remode(1, [1]), rekind([1], "i16"), rekind([1], "t3")]
        self.holds("{1a!i8=100}", calls, [[-15], [-19], [0], [-11]], "{1a!i16=100}")

    def test_no_default_no_fault(self):
        self.settled("{1a!i8}", rekind([1], "t3"), "{1a!t3}")
        self.settled("{1a!t3}", rekind([1], "{1x!b}"), "{1a!{1x!b}}")


if __name__ == "__main__":
    unittest.main()
