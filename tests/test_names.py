import unittest

from helpers import ANYTHING, Case
from ringlessday.names import is_end, is_entry, is_name, is_number


class NamesTest(Case):
    def test_names(self):
        for value in ("a", "z", "west", "abcdef", "zzzzzz"):
            self.same(is_name(value), True)

    def test_no_names(self):
        for value in ("", "abcdefg", "A", "aB", "a1", "1", "a b", " a", "a\n", "a.b", "a_b", "-", "\u00e9", "\u00df",
                      "`", "{", "@", "["):
            self.same(is_name(value), False)

    def test_names_among_anything(self):
        self.assertEqual([value for value in ANYTHING if is_name(value)], ["a", "x", "stem", "plain"])
        for value in ANYTHING:
            self.assertIs(type(is_name(value)), bool)

    def test_numbers(self):
        for value, least, most in ((0, 0, 0), (1, 1, 50), (50, 1, 50), (-3, -3, 3), (3, -3, 3), (10 ** 9, 0, 10 ** 9)):
            self.same(is_number(value, least, most), True)

    def test_numbers_beyond_a_bound(self):
        for value, least, most in ((1, 2, 50), (51, 1, 50), (-4, -3, 3), (4, -3, 3), (0, 1, 0), (10 ** 40, 0, 10 ** 9)):
            self.same(is_number(value, least, most), False)

    def test_true_and_false_are_no_numbers(self):
        self.same(is_number(True, 0, 1), False)
        self.same(is_number(False, 0, 1), False)

    def test_numbers_among_anything(self):
        found = [value for value in ANYTHING if is_number(value, -10 ** 9, 10 ** 9)]
        self.same(found, [0, 1, -1, 7, 51, 10 ** 9, -10 ** 9])

    def test_ends(self):
        for side in ("a", "b", "c", "d", "left", "right", "stem"):
            self.same(is_end(("x", side)), True)
            self.same(is_end(("abcdef", side)), True)

    def test_no_ends(self):
        for value in (("x", "e"), ("x", "Left"), ("x", ""), ("x", "lef"), ("x", "leftright"), ("X", "a"),
                      ("abcdefg", "a"), ("", "a"), ["x", "a"], ("x",), ("x", "a", "a"), "xa", ("x", 1), ("x", ["a"]),
                      (("x",), "a"), ("x", ("a",)), (1, "a")):
            self.same(is_end(value), False)

    def test_ends_among_anything(self):
        self.assertEqual([value for value in ANYTHING if is_end(value)], [("x", "a")])

    def test_entries(self):
        for index in range(6):
            self.same(is_entry(("a", index)), True)

    def test_no_entries(self):
        for value in (("a", -1), ("a", 6), ("a", True), ("a", False), ("A", 0), ("", 0), ("abcdefg", 0), ["a", 0],
                      ("a",), ("a", 0, 0), ("a", "0"), ("a", None), ("a", (0,)), (0, "a"), "a0", (("a", 0), 0)):
            self.same(is_entry(value), False)

    def test_entries_among_anything(self):
        self.same([value for value in ANYTHING if is_entry(value)], [("x", 0)])

    def test_by_the_names_of_the_parameters(self):
        self.same([is_name(value="a"), is_number(value=1, least=0, most=2), is_end(value=("x", "a")),
                   is_entry(value=("a", 0))], [True, True, True, True])


if __name__ == "__main__":
    unittest.main()
