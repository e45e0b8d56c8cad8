"""Promise 11: rename gives a field another name."""

import unittest

from tests.asking import EXAMPLE, rename, with_length
from tests.changing import Changing


class Rename(Changing):
    def test_fields_of_the_example(self):
        self.settled(EXAMPLE, rename([1], "key"), EXAMPLE.replace("1id!", "1key!"))
        self.settled(EXAMPLE, rename([4], "place"), EXAMPLE.replace("4pos?", "4place?"))
        self.settled(EXAMPLE, rename([4, 1], "left"), EXAMPLE.replace("1x!", "1left!"))
        self.settled(EXAMPLE, rename([5, 2, 1], "l"), EXAMPLE.replace("1len!", "1l!"))
        self.settled(EXAMPLE, rename([6], "a_1"), EXAMPLE.replace("6attr%", "6a_1%"))
        self.settled(EXAMPLE, rename([6, 1], "z"), EXAMPLE.replace("1key!", "1z!"))

    def test_names(self):
        for text in ("a", "z", "a0", "a_", "z9_", "abcdefghijk", "abcdefghijkl", "a23456789012", "a___________"):
            self.settled("{1q!b}", rename([1], text), "{1" + text + "!b}")

    def test_no_names(self):
        for text in ("", "abcdefghijklm", "a" * 13, "a" * 5000, "0", "1a", "9", "_", "_a", "A", "Ab", "aB", "a-b",
                     "a.b", "a b", " a", "a ", "a!", "a;2b", "!", "a!b", "`", "{", "a`", "a{", "a/", "a:", "a^"):
            self.refused("{1q!b}", rename([1], text), -5)

    def test_bytes_that_names_do_not_have(self):
        for byte in (0, 10, 127, 128, 225, 255):
            self.refused("{1q!b}", rename([1], [byte]), -5)
            self.refused("{1q!b}", rename([1], [97, byte]), -5)

    def test_each_sign(self):
        for byte in range(256):
            letter = 97 <= byte <= 122
            told = letter or 48 <= byte <= 57 or byte == 95
            if letter:
                self.settled("{1q!b}", rename([1], [byte]), "{1" + chr(byte) + "!b}")
            else:
                self.refused("{1q!b}", rename([1], [byte]), -5)
            if told:
                self.settled("{1q!b}", rename([1], [113, byte]), "{1q" + chr(byte) + "!b}")
            else:
                self.refused("{1q!b}", rename([1], [113, byte]), -5)

    def test_no_field(self):
        self.refused_without_field(lambda path: rename(path, "q"))
        self.refused_without_field(lambda path: rename(path, "Q"))
        self.refused(EXAMPLE, rename([], "q"), -4)
        self.refused(EXAMPLE, rename([], ""), -4)

    def test_the_name_of_another_field(self):
        self.refused("{1a!b;2b!b;3c!b}", rename([2], "a"), -13)
        self.refused("{1a!b;2b!b;3c!b}", rename([2], "c"), -13)
        self.refused("{1a!{1x!b;2y!b}}", rename([1, 1], "y"), -13)
        self.refused("{1a!<1x!b;2y!b>}", rename([1, 2], "x"), -13)

    def test_the_name_of_a_field_in_another_group(self):
        self.settled("{1a!{1x!b};2b!b}", rename([1, 1], "a"), "{1a!{1a!b};2b!b}")
        self.settled("{1a!{1x!b};2b!b}", rename([2], "x"), "{1a!{1x!b};2x!b}")

    def test_its_own_name(self):
        self.settled(EXAMPLE, rename([1], "id"), EXAMPLE)
        self.settled(EXAMPLE, rename([4, 1], "x"), EXAMPLE)

    def test_length(self):
        self.settled(with_length(1999), rename([1], "aa"), with_length(1999).replace("{1a", "{1aa"))
        self.refused(with_length(2000), rename([1], "aa"), -20)
        self.settled(with_length(2000), rename([1], "z"), with_length(2000).replace("{1a", "{1z"))
        # the name is looked at before the length, the length before names that are there twice
        self.refused(with_length(2000), rename([1], "a" * 13), -5)
        self.refused(with_length(2000).replace("2b!", "2bb!").replace("y", "", 1), rename([1], "bb"), -20)


if __name__ == "__main__":
    unittest.main()
