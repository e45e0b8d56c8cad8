"""Promises 7 and 8: fields by their dotted names, and dotted names by their paths."""

import unittest

from tests.asking import EXAMPLE, ask, find, hold, name, nested, signs, with_leaves

FAR = 10 ** 18

FIELDS = [
    ("id", [1], 0, 1),
    ("name", [2], 1, 1),
    ("tags", [3], 2, 1),
    ("pos", [4], 3, 2),
    ("pos.x", [4, 1], 3, 1),
    ("pos.y", [4, 2], 4, 1),
    ("shape", [5], 5, 2),
    ("shape.dot", [5, 1], 5, 1),
    ("shape.line", [5, 2], 6, 1),
    ("shape.line.len", [5, 2, 1], 6, 1),
    ("attr", [6], 7, 2),
    ("attr.key", [6, 1], 7, 1),
    ("attr.val", [6, 2], 8, 1),
]
DEEPEST = "{1abcdefghijkl!" * 6 + "b" + "}" * 6


def found(text, dotted):
    return ask(hold(text), find(dotted))[1]


def named(text, path):
    return ask(hold(text), name(path))[1]


class Find(unittest.TestCase):
    def test_each_field_of_the_example(self):
        for dotted, path, first, count in FIELDS:
            with self.subTest(dotted=dotted):
                self.assertEqual(found(EXAMPLE, dotted), [first, count] + path)

    def test_names_of_no_field(self):
        for dotted in ("", ".", "..", "x", "i", "idd", "ID", "id ", " id", "x.pos", "pos.z", "y", "pos.", ".pos",
                       "pos..x", "pos.x.", "pos.x.y", "id.id", "pos x", "pos,x", "shape.len", "shape.line.len.x",
                       "4.1", "4", "pos.1", "id;", "pos.x=0", "x" * 5000, "." * 5000, "pos." * 1250):
            with self.subTest(dotted=dotted[:40]):
                self.assertEqual(found(EXAMPLE, dotted), [-4])

    def test_bytes_that_names_do_not_have(self):
        for byte in (0, 10, 128, 255):
            with self.subTest(byte=byte):
                self.assertEqual(found(EXAMPLE, [byte]), [-4])
                self.assertEqual(found(EXAMPLE, signs("id") + [byte]), [-4])

    def test_one_name_in_several_groups(self):
        text = "{1a!{1b!b;2a!b};2b!{5a!i8;7b!{9a!b}}}"
        self.assertEqual(found(text, "a"), [0, 2, 1])
        self.assertEqual(found(text, "a.a"), [1, 1, 1, 2])
        self.assertEqual(found(text, "b"), [2, 2, 2])
        self.assertEqual(found(text, "b.b.a"), [3, 1, 2, 7, 9])
        self.assertEqual(found(text, "a.a.a"), [-4])

    def test_the_ends(self):
        self.assertEqual(found(with_leaves(40), "a40"), [39, 1, 40])
        self.assertEqual(found("{999z!" + with_leaves(40) + "}", "z"), [0, 40, 999])
        self.assertEqual(found(nested(6), "a.a.a.a.a.a"), [0, 1, 1, 1, 1, 1, 1, 1])
        self.assertEqual(found(nested(6), "a.a.a.a.a.a.a"), [-4])

    def test_the_longest_dotted_name(self):
        dotted = ".".join(["abcdefghijkl"] * 6)
        self.assertEqual(found(DEEPEST, dotted), [0, 1] + [1] * 6)


class Name(unittest.TestCase):
    def test_each_field_of_the_example(self):
        for dotted, path, first, count in FIELDS:
            with self.subTest(dotted=dotted):
                self.assertEqual(named(EXAMPLE, path), [len(dotted)] + signs(dotted))

    def test_paths_of_no_field(self):
        for path in ([], [0], [7], [-1], [-6], [FAR], [-FAR], [1, 1], [4, 0], [4, 3], [4, -1], [4, 1, 1], [5, 2, 2],
                     [5, 2, 1, 1], [1, 4], [0, 4], [4] * 100, [1] * 100):
            with self.subTest(path=path):
                self.assertEqual(named(EXAMPLE, path), [-4])

    def test_numbers_not_positions(self):
        text = "{5a!b;10b!{7c!b;100d!b}}"
        self.assertEqual(named(text, [5]), [1] + signs("a"))
        self.assertEqual(named(text, [10, 100]), [3] + signs("b.d"))
        for path in ([0], [1], [2], [10, 1], [10, 2]):
            with self.subTest(path=path):
                self.assertEqual(named(text, path), [-4])

    def test_the_longest_dotted_name(self):
        dotted = ".".join(["abcdefghijkl"] * 6)
        self.assertEqual(len(dotted), 77)
        self.assertEqual(named(DEEPEST, [1] * 6), [77] + signs(dotted))
        self.assertEqual(named(DEEPEST, [1] * 7), [-4])

    def test_the_shortest(self):
        self.assertEqual(named("{1a!b}", [1]), [1] + signs("a"))


if __name__ == "__main__":
    unittest.main()
