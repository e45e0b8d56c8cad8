"""Promise 1 and "The first fault": each kind of fault at its place, and the first where two could be told."""

import unittest

from tests.asking import EXAMPLE, ask, check, fault, nested, with_leaves, with_length


class Asking(unittest.TestCase):
    def tell(self, text, kind, place):
        with self.subTest(text=text[:80]):
            self.assertEqual(fault(text), (kind, place))

    def good(self, text):
        self.tell(text, 0, len(text))


class Examples(Asking):
    def test_the_schema_of_the_document(self):
        self.good(EXAMPLE)

    def test_the_faults_of_the_document(self):
        self.tell("{1a!i8", 1, 6)
        self.tell("{1a!i8;1b!b}", 2, 7)
        self.tell("{1a!i1}", 5, 4)
        self.tell("{1a%b}", 6, 3)
        self.tell("{1a?b=1}", 9, 5)
        self.tell('{1a!t2="abc"}', 5, 7)
        self.tell('{1a!t2="a', 1, 7)
        self.tell("", 1, 0)

    def test_every_beginning_of_the_example_ends_too_soon(self):
        for length in range(len(EXAMPLE)):
            text = EXAMPLE[:length]
            with self.subTest(text=text):
                # where i16 is cut short, i1 is out of its range before the end is met
                self.assertEqual(fault(text)[0], 5 if text.endswith("i1") else 1)


class Schemas(Asking):
    def test_small_schemas(self):
        for text in ("{1a!b}", "{1a?b}", "{1a*b}", "{1a!i2}", "{1a!t1}", "{1a!{1a!b}}", "{1a!<1a!b>}"):
            self.good(text)

    def test_the_outermost_group_is_a_record(self):
        self.tell("<1a!b>", 1, 0)
        self.tell("1a!b", 1, 0)
        self.tell(" {1a!b}", 1, 0)

    def test_nothing_stands_behind_the_end(self):
        self.tell("{1a!b}}", 1, 6)
        self.tell("{1a!b} ", 1, 6)
        self.tell("{1a!b}{1a!b}", 1, 6)
        self.tell("{1a!b}=0", 1, 6)

    def test_groups_close_with_their_own_sign(self):
        self.tell("{1a!b>", 1, 5)
        self.tell("{1a!<1b!b}}", 1, 9)
        self.tell("{1a!{1b!b>}", 1, 9)
        self.tell("{1a!<1b!b>", 1, 10)

    def test_groups_are_not_empty(self):
        self.tell("{}", 1, 1)
        self.tell("{1a!{}}", 1, 5)
        self.tell("{1a!<>}", 1, 5)
        self.tell("{", 1, 1)

    def test_fields_stand_between_separators(self):
        self.tell("{;1a!b}", 1, 1)
        self.tell("{1a!b;}", 1, 6)
        self.tell("{1a!b;;2b!b}", 1, 6)
        self.tell("{1a!b,2b!b}", 1, 5)
        self.tell("{1a!b2b!b}", 1, 5)

    def test_no_blanks(self):
        self.tell("{ 1a!b}", 1, 1)
        self.tell("{1 a!b}", 1, 2)
        self.tell("{1a !b}", 1, 3)
        self.tell("{1a! b}", 1, 4)
        self.tell("{1a!b }", 1, 5)
        self.tell("{1a!b; 2b!b}", 1, 6)
        self.tell("{1a!b= 0}", 1, 6)

    def test_bytes_beyond_the_signs(self):
        for byte in (0, 10, 127, 128, 255):
            with self.subTest(byte=byte):
                self.assertEqual(fault([byte]), (1, 0))
                self.assertEqual(fault([123, byte]), (1, 1))


class Numbers(Asking):
    def test_range(self):
        self.good("{1a!b}")
        self.good("{999a!b}")
        self.good("{9a!b;10b!b;99c!b;100d!b}")

    def test_form(self):
        self.tell("{a!b}", 1, 1)
        self.tell("{0a!b}", 1, 1)
        self.tell("{01a!b}", 1, 1)
        self.tell("{000a!b}", 1, 1)
        self.tell("{1000a!b}", 1, 1)
        self.tell("{-1a!b}", 1, 1)
        self.tell("{1a!b;0b!b}", 1, 6)
        self.tell("{1a!b;1000b!b}", 1, 6)

    def test_numbers_rise_within_a_group(self):
        self.tell("{1a!b;1b!b}", 2, 6)
        self.tell("{2a!b;1b!b}", 2, 6)
        self.tell("{9a!b;10b!b;9c!b}", 2, 12)
        self.tell("{1a!b;5b!b;3c!b}", 2, 11)
        self.tell("{1a!b;5b!b;5c!b}", 2, 11)
        self.tell("{5a!<2b!b;2c!b>}", 2, 10)

    def test_each_group_counts_for_itself(self):
        self.good("{5a!{1b!b;2c!b};6d!{1e!b}}")
        self.tell("{5a!{6b!b};5c!b}", 2, 11)

    def test_form_goes_before_order(self):
        self.tell("{5a!b;04b!b}", 1, 6)
        self.tell("{5a!b;0b!b}", 1, 6)

    def test_order_goes_before_the_name(self):
        self.tell("{2a!b;1a!b}", 2, 6)
        self.tell("{2a!b;1_!b}", 2, 6)


class Names(Asking):
    def test_names(self):
        self.good("{1a!b}")
        self.good("{1z!b}")
        self.good("{1a_0z9!b}")
        self.good("{1abcdefghijkl!b}")

    def test_form(self):
        self.tell("{1!b}", 1, 2)
        self.tell("{1_a!b}", 1, 2)
        self.tell("{1A!b}", 1, 2)
        self.tell("{1abcdefghijklm!b}", 1, 2)
        self.tell("{12", 1, 3)
        self.tell("{12`!b}", 1, 3)
        self.tell("{12{!b}", 1, 3)

    def test_a_sign_that_names_do_not_have_ends_the_name(self):
        self.tell("{1aB!b}", 1, 3)
        self.tell("{1a-b!b}", 1, 3)
        self.tell("{1a.b!b}", 1, 3)

    def test_no_name_twice_within_a_group(self):
        self.tell("{1a!b;2a!b}", 3, 7)
        self.tell("{1a!b;2b!b;10a!b}", 3, 13)
        self.tell("{1x!<1a!b;2a!b>}", 3, 11)
        self.good("{1a!b;2a1!b;3a_!b;4aa!b}")

    def test_other_groups_may_have_the_name(self):
        self.good("{1a!{1a!b;2b!b};2b!{1a!b}}")

    def test_a_name_twice_goes_before_the_mode(self):
        self.tell("{1a!b;2a}", 3, 7)
        self.tell("{1x!<1a!b;2a?b>}", 3, 11)


class Modes(Asking):
    def test_modes(self):
        self.good("{1a!b;2b?b;3c*b;4d%{1k!b}}")

    def test_form(self):
        self.tell("{1ab}", 1, 4)
        self.tell("{1a+b}", 1, 3)
        self.tell("{1a", 1, 3)
        self.tell("{1a=0}", 1, 3)

    def test_in_a_choice_only_one(self):
        self.good("{1a!<1b!b;2c!i8>}")
        for mode in "?*%":
            self.tell("{1a!<1b" + mode + "b>}", 4, 7)
            self.tell("{1a!<1b!b;2c" + mode + "{1k!b}>}", 4, 12)

    def test_a_record_in_a_choice_has_all_modes(self):
        self.good("{1a?<1b!{1c!b;2d?b;3e*b;4f%{1k!b}}>}")

    def test_a_choice_has_all_modes_but_keyed(self):
        self.good("{1a!<1b!b>;2c?<1b!b>;3d*<1b!b>}")

    def test_form_goes_before_the_choice(self):
        self.tell("{1a!<1b+b>}", 1, 7)

    def test_the_choice_goes_before_the_kind(self):
        self.tell("{1a!<1b?x>}", 4, 7)
        self.tell("{1a!<1b%b>}", 4, 7)


class Keys(Asking):
    def test_keyed_records(self):
        self.good("{1a%{1k!b}}")
        self.good("{1a%{1k!i8=3;2v?t3}}")
        self.good("{1a%{1k!t9;2v%{5k!b}}}")

    def test_no_record(self):
        self.tell("{1a%b}", 6, 3)
        self.tell("{1a%i8}", 6, 3)
        self.tell("{1a%t8}", 6, 3)
        self.tell("{1a%<1k!b>}", 6, 3)

    def test_no_key_in_front(self):
        self.tell("{1a%{1k?b}}", 6, 3)
        self.tell("{1a%{1k*b}}", 6, 3)
        self.tell("{1a%{1k%{1j!b}}}", 6, 3)
        self.tell("{1a%{1k!{1j!b}}}", 6, 3)
        self.tell("{1a%{1k!<1j!b>}}", 6, 3)
        self.tell("{1a%{1k?b;2j!b}}", 6, 3)

    def test_the_place_is_that_of_the_mode(self):
        self.tell("{10abc%{1k?b;2v!b}}", 6, 6)
        self.tell("{1a%{1k!b;2v%b}}", 6, 12)

    def test_the_kind_is_read_whole_first(self):
        self.tell("{1a%{1k?b;2k?b}}", 3, 11)
        self.tell("{1a%{1k?b", 1, 9)
        self.tell("{1a%i1}", 5, 4)
        self.tell("{1a%x}", 1, 4)

    def test_inner_groups_are_looked_at_before_outer_ones(self):
        self.tell("{1a%{1b%t1}}", 6, 7)

    def test_the_key_goes_before_the_default(self):
        self.tell("{1a%b=0}", 6, 3)


class Kinds(Asking):
    def test_whole_numbers(self):
        self.good("{1a!i2;2b!i64;3c!i9;4d!i10;5e!i63}")
        for size in ("1", "65", "99", "100", "999"):
            self.tell("{1a!i" + size + "}", 5, 4)
        for size in ("", "0", "02", "064", "1000", "6400", "-2", "a"):
            self.tell("{1a!i" + size + "}", 1, 4)

    def test_texts(self):
        self.good("{1a!t1;2b!t999;3c!t65;4d!t100}")
        for size in ("", "0", "01", "000", "1000", "9999", "-1", "b"):
            self.tell("{1a!t" + size + "}", 1, 4)

    def test_bits_have_no_size(self):
        self.good("{1a!b}")
        self.tell("{1a!b1}", 1, 5)

    def test_no_kind(self):
        for sign in "acxBIT0}>;=!\"":
            self.tell("{1a!" + sign + "}", 1, 4)
            self.tell("{1a!" + sign + "8}", 1, 4)
        self.tell("{1a!", 1, 4)

    def test_the_size_ends_the_kind(self):
        self.tell("{1a!i8x}", 1, 6)
        self.tell("{1a!t8-}", 1, 6)


class Defaults(Asking):
    def test_where_defaults_stand(self):
        self.good("{1a!b=0;2b!i8=1;3c!t3=\"x\"}")
        self.good("{1a!{1b!b=0};2c*{1d!b=1};3e%{1k!b=0};4f!<1g!{1h!b=1}>}")

    def test_modes_without_default(self):
        self.tell("{1a?b=0}", 9, 5)
        self.tell("{1a*b=0}", 9, 5)
        self.tell("{1a?i16=0}", 9, 7)
        self.tell('{1a*t100="x"}', 9, 8)

    def test_groups_without_default(self):
        self.tell("{1a!{1b!b}=0}", 9, 10)
        self.tell("{1a!<1b!b>=0}", 9, 10)
        self.tell("{1a%{1k!b}=0}", 9, 10)

    def test_fields_of_a_choice_without_default(self):
        self.tell("{1a!<1b!b=0>}", 9, 9)
        self.tell("{1a!<1b!i8=0;2c!b>}", 9, 10)

    def test_this_goes_before_the_literal(self):
        self.tell("{1a?b=", 9, 5)
        self.tell("{1a?i8=999}", 9, 6)
        self.tell("{1a!<1b!b=2>}", 9, 9)


class Limits(Asking):
    def test_length(self):
        self.good(with_length(1999))
        self.good(with_length(2000))
        self.tell(with_length(2001), 10, 2000)

    def test_of_a_long_text_nothing_else_is_looked_at(self):
        self.tell("x" * 2001, 10, 2000)
        self.tell("x" * 5000, 10, 2000)
        self.tell(EXAMPLE + " " * (2001 - len(EXAMPLE)), 10, 2000)
        self.tell("x" * 2000, 1, 0)
        self.tell(EXAMPLE + " " * (2000 - len(EXAMPLE)), 1, len(EXAMPLE))

    def test_depth_of_records(self):
        self.good(nested(6))
        self.tell(nested(7), 7, 24)
        self.tell(nested(300), 7, 24)

    def test_depth_of_choices(self):
        six = "{1a!<1a!{1a!<1a!{1a!<1a!"
        self.good(six + "b>}>}>}")
        self.tell(six + "{1a!b}>}>}>}", 7, 24)
        self.tell(six + "<1a!b>>}>}>}", 7, 24)

    def test_depth_is_told_before_what_stands_in_the_group(self):
        self.tell("{1a!" * 6 + "{", 7, 24)
        self.tell("{1a!" * 5 + "{1a%{1a?b}" + "}" * 6, 7, 24)

    def test_depth_of_a_field_behind_a_group(self):
        self.good("{1a!" * 6 + "b}}}}};2b!{1c!b}}")
        self.good("{1a!{1b!{1c!{1d!{1e!{1f!b}};2g!{1h!{1i!b}}}}}}")
        self.tell("{1a!{1b!{1c!{1d!{1e!{1f!b}};2g!{1h!{1i!{1j!b}}}}}}}", 7, 39)

    def test_leaves(self):
        self.good(with_leaves(39))
        self.good(with_leaves(40))
        text = with_leaves(41)
        self.tell(text, 8, len(text) - 2)

    def test_leaves_count_over_all_groups(self):
        within = "{1z!" + with_leaves(39)
        self.good(within + ";2y!b}")
        self.tell(within + ";2y!b;3x!i8}", 8, len(within) + 9)
        self.tell(within + ";2y!{1x!<1w!b;2v!t4>}}", 8, len(within) + 17)

    def test_groups_are_no_leaves(self):
        forty = with_leaves(40)[:-1]
        self.tell(forty + ";41g!{1x?b}}", 8, len(forty) + 9)

    def test_the_kind_goes_before_the_leaf(self):
        forty = with_leaves(40)[:-1]
        self.tell(forty + ";41x!i}", 1, len(forty) + 5)
        self.tell(forty + ";41x!i65}", 5, len(forty) + 5)

    def test_the_leaf_goes_before_key_and_default(self):
        forty = with_leaves(40)[:-1]
        self.tell(forty + ";41x%b}", 8, len(forty) + 5)
        self.tell(forty + ";41x!b=2}", 8, len(forty) + 5)
        self.tell(forty + ";41x?b=2}", 8, len(forty) + 5)


class Held(Asking):
    def test_what_is_held_is_not_looked_at(self):
        alone = ask(check("{1a!b}"), check("{1a!i8"), check(""))
        held = ask([1, 6] + list(b"{7q!b}"), check("{1a!b}"), check("{1a!i8"), check(""))
        self.assertEqual(alone, [[0, 6], [1, 6], [1, 0]])
        self.assertEqual(held[1:], alone)


if __name__ == "__main__":
    unittest.main()
