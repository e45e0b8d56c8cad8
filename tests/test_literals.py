"""The literals of defaults, asked through check; all faults of a literal stand where it begins."""

import unittest

from tests.asking import fault, signs


class Asking(unittest.TestCase):
    def tell(self, leaf, literal, kind):
        """With a literal that is right the kind is 0, and the place the text's length."""
        head = signs("{1a!" + leaf + "=")
        text = head + signs(literal) + signs("}")
        place = len(head) if kind else len(text)
        with self.subTest(leaf=leaf, literal=literal):
            self.assertEqual(fault(text), (kind, place))


class Bits(Asking):
    def test_literals(self):
        self.tell("b", "0", 0)
        self.tell("b", "1", 0)

    def test_wrong_signs(self):
        for literal in ("2", "9", "", "-1", "-0", '"0"', "b", "/", ":"):
            self.tell("b", literal, 1)

    def test_one_sign_alone(self):
        self.assertEqual(fault("{1a!b=00}"), (1, 7))
        self.assertEqual(fault("{1a!b=01}"), (1, 7))
        self.assertEqual(fault("{1a!b=10}"), (1, 7))

    def test_the_end(self):
        self.assertEqual(fault("{1a!b="), (1, 6))
        self.assertEqual(fault("{1a!b=0"), (1, 7))


class WholeNumbers(Asking):
    def test_literals(self):
        for literal in ("0", "1", "9", "10", "100", "-1", "-10"):
            self.tell("i8", literal, 0)

    def test_form(self):
        for literal in ("", "-", "-0", "00", "01", "-01", "000", "-00", "--1", "+1", "a", '"1"', " 1"):
            self.tell("i8", literal, 1)

    def test_ends_of_every_range(self):
        for size in range(2, 65):
            half = 2 ** (size - 1)
            leaf = f"i{size}"
            self.tell(leaf, str(half - 1), 0)
            self.tell(leaf, str(-half), 0)
            self.tell(leaf, str(half), 5)
            self.tell(leaf, str(-half - 1), 5)

    def test_written_ends(self):
        self.tell("i2", "1", 0)
        self.tell("i2", "-2", 0)
        self.tell("i2", "2", 5)
        self.tell("i2", "-3", 5)
        self.tell("i64", "9223372036854775807", 0)
        self.tell("i64", "-9223372036854775808", 0)
        self.tell("i64", "9223372036854775808", 5)
        self.tell("i64", "-9223372036854775809", 5)

    def test_long_numbers(self):
        for length in (18, 19, 20, 21, 100, 1900):
            self.tell("i8", "9" * length, 5)
            self.tell("i8", "-" + "9" * length, 5)
            self.tell("i8", "0" * length, 1)
            self.tell("i8", "0" + "9" * length, 1)
        self.tell("i64", "9" * 18, 0)
        self.tell("i64", "9" * 19, 5)
        self.tell("i64", "1" + "0" * 19, 5)

    def test_behind_the_number(self):
        self.assertEqual(fault("{1a!i8=12x}"), (1, 9))
        self.assertEqual(fault("{1a!i8=0-1}"), (1, 8))
        self.assertEqual(fault("{1a!i8=1"), (1, 8))
        self.assertEqual(fault("{1a!i8=1;2b!b}"), (0, 14))

    def test_the_end(self):
        self.assertEqual(fault("{1a!i8="), (1, 7))
        self.assertEqual(fault("{1a!i8=-"), (1, 7))


class Texts(Asking):
    def test_literals(self):
        self.tell("t1", '""', 0)
        self.tell("t3", '"abc"', 0)
        self.tell("t9", '"{;}<>=% "', 0)

    def test_form(self):
        for literal in ("", "x", "'x'", "0", '"', '"abc', '\\22"', '\\"x"'):
            self.tell("t9", literal, 1)

    def test_the_next_quote_ends_it(self):
        self.assertEqual(fault('{1a!t9="""}'), (1, 9))
        self.assertEqual(fault('{1a!t9="a"b"}'), (1, 10))

    def test_each_byte_as_itself(self):
        for byte in range(256):
            if byte == 34:
                continue
            itself = 32 <= byte <= 126 and byte != 92
            self.tell("t1", [34, byte, 34], 0 if itself else 1)

    def test_each_byte_behind_a_backslash(self):
        for byte in range(256):
            itself = 32 <= byte <= 126 and byte not in (34, 92)
            self.tell("t1", f'"\\{byte:02x}"', 1 if itself else 0)

    def test_digits_of_base_sixteen(self):
        self.tell("t1", '"\\0a"', 0)
        self.tell("t1", '"\\f0"', 0)
        for pair in ("0A", "F0", "0g", "g0", "0", "", "/0", ":0", "0/", "0:", "0`", "-1", " 1", "x0"):
            self.tell("t9", '"\\' + pair + '"', 1)

    def test_a_backslash_at_the_end(self):
        self.assertEqual(fault('{1a!t9="\\'), (1, 7))
        self.assertEqual(fault('{1a!t9="\\0'), (1, 7))
        self.assertEqual(fault('{1a!t9="\\00'), (1, 7))
        self.assertEqual(fault('{1a!t9="'), (1, 7))
        self.assertEqual(fault("{1a!t9="), (1, 7))

    def test_a_backslash_hides_no_quote(self):
        self.tell("t9", '"\\""', 1)
        self.tell("t9", '"\\0"0"', 1)

    def test_bytes_count_not_signs(self):
        self.tell("t2", '"\\00\\ff"', 0)
        self.tell("t2", '"\\00\\ff\\22"', 5)
        self.tell("t2", '"a\\5c"', 0)
        self.tell("t1", '"a\\5c"', 5)

    def test_size(self):
        self.tell("t1", '"a"', 0)
        self.tell("t1", '"ab"', 5)
        self.tell("t2", '"abc"', 5)
        self.tell("t999", '"' + "x" * 999 + '"', 0)
        self.tell("t999", '"' + "x" * 1000 + '"', 5)

    def test_form_goes_before_size(self):
        self.tell("t1", '"abc\\41"', 1)
        self.tell("t1", '"abc', 1)
        self.tell("t1", [34, 97, 98, 10, 34], 1)


if __name__ == "__main__":
    unittest.main()
