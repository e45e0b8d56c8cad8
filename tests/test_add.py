"""Promise 9: add puts fields into the outermost record or into a group."""

import unittest

from tests.asking import EXAMPLE, add, nested, with_leaves, with_length
from tests.changing import Changing


class Where(Changing):
    def test_the_empty_path(self):
        self.settled("{1a!b}", add([], "2b!i8"), "{1a!b;2b!i8}")
        self.settled(EXAMPLE, add([], "7x?t3"), EXAMPLE[:-1] + ";7x?t3}")

    def test_a_record(self):
        self.settled("{4p?{1x!b}}", add([4], "2y*b"), "{4p?{1x!b;2y*b}}")
        self.settled("{4p?{1x!{1y!b}};5q!b}", add([4, 1], "2z!b"), "{4p?{1x!{1y!b;2z!b}};5q!b}")
        self.settled(EXAMPLE, add([6], "3w!b"), EXAMPLE[:-2] + ";3w!b}}")

    def test_a_choice(self):
        self.settled("{1a!<1b!b>}", add([1], "2c!t4"), "{1a!<1b!b;2c!t4>}")
        self.settled("{1a!<1b!b>}", add([1], "2c!{1d?b}"), "{1a!<1b!b;2c!{1d?b}>}")

    def test_a_leaf(self):
        self.refused(EXAMPLE, add([1], "9x!b"), -4)
        self.refused(EXAMPLE, add([4, 1], "9x!b"), -4)
        self.refused(EXAMPLE, add([5, 2, 1], "9x!b"), -4)

    def test_no_field(self):
        self.refused_without_field(lambda path: add(path, "9x!b"))
        self.refused_without_field(lambda path: add(path, "x"))

    def test_the_path_goes_before_the_text(self):
        self.refused(EXAMPLE, add([1], ""), -4)
        self.refused(EXAMPLE, add([9], "}"), -4)


class Text(Changing):
    def test_no_schema_between_the_signs(self):
        for text in ("", ";", "x", " ", "2b!b;", ";2b!b", "2b!b ", "2b", "b", "{2b!b}", "2b!b;2c!b", "3b!b;2c!b",
                     "2b!b;3b!b", "2b!i1", "2b%b", "2b?b=0", "02b!b", "1000b!b", "2B!b", "2b!b=2", "2b!{}",
                     '2b!t1="xy"', "2b!<1c?b>"):
            self.refused("{1a!b}", add([], text), -5)
            self.refused("{1a!{1b!b}}", add([1], text), -5)

    def test_signs_that_close_the_record(self):
        for text in ("}", "2b!b}", "2b!b}{3c!b", "}{", "2b!b};3c!b", "2b!b>", ">"):
            self.refused("{1a!b}", add([], text), -5)
            self.refused("{1a!<1b!b>}", add([1], text), -5)

    def test_bytes_beyond_the_signs(self):
        for byte in (0, 10, 127, 255):
            self.refused("{1a!b}", add([], [byte]), -5)

    def test_a_record_is_meant_whatever_the_group_is(self):
        # modes and defaults are right in a record, so only the change that has been made is refused
        self.refused("{1a!<1b!b>}", add([1], "2c?b"), -14)
        self.refused("{1a!<1b!b>}", add([1], "2c!b=0"), -19)

    def test_limits_of_the_text_alone(self):
        self.refused("{9z!b}", add([], with_length(2000)[1:-1]), -20)
        self.refused("{9z!b}", add([], with_length(2001)[1:-1]), -5)
        self.refused("{9z!b}", add([], "x" * 5000), -5)
        self.settled("{9z!b}", add([], nested(6)[1:-1]), nested(6)[:-1] + ";9z!b}")
        self.refused("{9z!b}", add([], nested(7)[1:-1]), -5)
        self.refused("{99z!b}", add([], with_leaves(40)[1:-1]), -18)
        self.refused("{99z!b}", add([], with_leaves(41)[1:-1]), -5)


class Order(Changing):
    def test_before_between_and_behind(self):
        self.settled("{5a!b;9b!b}", add([], "1x!b"), "{1x!b;5a!b;9b!b}")
        self.settled("{5a!b;9b!b}", add([], "7x!b"), "{5a!b;7x!b;9b!b}")
        self.settled("{5a!b;9b!b}", add([], "10x!b"), "{5a!b;9b!b;10x!b}")
        self.settled("{5a!b;9b!b}", add([], "999x!b"), "{5a!b;9b!b;999x!b}")

    def test_several_fields(self):
        self.settled("{5a!b;9b!b}", add([], "1u!b;4v!b;6w!b;8x!b;10y!b"),
                     "{1u!b;4v!b;5a!b;6w!b;8x!b;9b!b;10y!b}")
        self.settled("{5a!<5b!b>}", add([5], "4c!i8;6d!{1e*t3}"), "{5a!<4c!i8;5b!b;6d!{1e*t3}>}")

    def test_fields_with_all_that_they_have(self):
        text = '2b!i8=-7;3c?{1d!t9="a\\5c\\00";2e*<1f!b>};4g%{1k!b=1;2v?i64}'
        self.settled("{1a!b}", add([], text), "{1a!b;" + text + "}")

    def test_a_number_that_is_there(self):
        self.refused("{1a!b;2b!b}", add([], "2x!b"), -12)
        self.refused("{1a!b;2b!b}", add([], "1x!b"), -12)
        self.refused("{1a!b;2b!b}", add([], "3x!b;5y!b;999z!b;2w!b"), -5)
        self.refused("{1a!b;2b!b}", add([], "2x!b;3y!b"), -12)

    def test_it_stands_before_the_one_with_its_number(self):
        # were it behind, its number would be the first fault
        self.refused("{1c!<1a!b>}", add([1], "1x?b"), -14)
        self.refused("{1c!<1a!b>}", add([1], "1x!b=0"), -19)
        self.refused("{1a!b;2b!b}", add([], "2a!b"), -13)
        self.refused("{1a!b;2b!b}", add([], "1b!b"), -12)

    def test_a_name_that_is_there(self):
        self.refused("{1a!b;5b!b}", add([], "7a!b"), -13)
        self.refused("{1a!b;5b!b}", add([], "3b!b"), -13)
        self.refused("{1a!b;5b!{1c!b}}", add([5], "2c!b"), -13)
        self.settled("{1a!b;5b!{1c!b}}", add([5], "2a!b"), "{1a!b;5b!{1c!b;2a!b}}")


class Settling(Changing):
    def test_depth(self):
        self.settled(nested(6), add([1] * 4, "2c!{1d!b}"), "{1a!{1a!{1a!{1a!{1a!{1a!b};2c!{1d!b}}}}}}")
        self.refused(nested(6), add([1] * 5, "2c!{1d!b}"), -17)
        self.refused(nested(6), add([1] * 5, "2c!<1d!b>"), -17)
        self.settled(nested(6), add([1] * 5, "2c!b"), "{1a!" * 6 + "b;2c!b}}}}}}")
        self.settled("{9z!{9z!b}}", add([9], nested(5)[1:-1]), "{9z!" + nested(5)[:-1] + ";9z!b}}")
        self.refused("{9z!{9z!b}}", add([9], nested(6)[1:-1]), -17)

    def test_groups_deep_in_one_another(self):
        self.refused(nested(6), add([1] * 5, "2c!" + nested(5)), -17)

    def test_leaves(self):
        self.settled(with_leaves(39), add([], "40a40!b"), with_leaves(40))
        self.refused(with_leaves(40), add([], "41a41!b"), -18)
        self.refused(with_leaves(39), add([], "40y!b;41z!{1x!b}"), -18)
        self.refused("{1z!b;2a!" + with_leaves(39) + "}", add([2], "99x!b"), -18)

    def test_length(self):
        self.settled(with_length(1995), add([], "3c!b"), with_length(1995)[:-1] + ";3c!b}")
        self.refused(with_length(1996), add([], "3c!b"), -20)

    def test_of_a_long_text_nothing_else_is_looked_at(self):
        self.refused(with_length(2000), add([], "2b!b"), -20)
        self.refused(with_length(1990), add([], "2b!b"), -12)

    def test_before_a_key(self):
        keyed = "{1a%{5k!b;6v?b}}"
        self.settled(keyed, add([1], "1x!t9"), "{1a%{1x!t9;5k!b;6v?b}}")
        self.refused(keyed, add([1], "1x?t9"), -16)
        self.refused(keyed, add([1], "1x*b"), -16)
        self.refused(keyed, add([1], "1x!{1y!b}"), -16)
        self.refused(keyed, add([1], "1x!<1y!b>"), -16)
        self.refused(keyed, add([1], "1x%{1k!b}"), -16)
        self.settled(keyed, add([1], "7x?t9"), "{1a%{5k!b;6v?b;7x?t9}}")

    def test_the_first_fault_is_told(self):
        self.refused("{1a%{5k!b}}", add([1], "1x?b;6k!b"), -13)
        self.refused("{1a%{5k!b};2b!b}", add([1], "1x?b"), -16)


if __name__ == "__main__":
    unittest.main()
