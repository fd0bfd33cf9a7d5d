import random
import unittest
from fractions import Fraction

from helpers import ANYTHING, Case
from ringlessday.errors import InvalidText
from ringlessday.ratios import Ratio

GREAT = 10 ** 9
SMALL = [(top, bottom) for top in range(-7, 8) for bottom in (-6, -4, -3, -1, 1, 2, 3, 4, 6)]


def exact(value):
    return Fraction(value.top, value.bottom) if isinstance(value, Ratio) else Fraction(value)


class TermsTest(Case):
    def test_lowest_terms_with_every_sign(self):
        for (top, bottom), terms in (((4, 6), (2, 3)), ((-4, 6), (-2, 3)), ((4, -6), (-2, 3)), ((-4, -6), (2, 3)),
                                     ((0, 5), (0, 1)), ((0, -5), (0, 1)), ((6, 3), (2, 1)), ((-6, 3), (-2, 1)),
                                     ((7, 1), (7, 1)), ((7, -1), (-7, 1)), ((3, 7), (3, 7)), ((1, -1), (-1, 1))):
            found = Ratio(top, bottom)
            self.same((found.top, found.bottom), terms)
        for top, bottom in SMALL:
            found = Ratio(top, bottom)
            self.same((found.top, found.bottom), (Fraction(top, bottom).numerator, Fraction(top, bottom).denominator))

    def test_parameters(self):
        self.same([(found.top, found.bottom) for found in (Ratio(5), Ratio(top=6, bottom=4), Ratio(top=-5), Ratio(6, bottom=-4))],
                  [(5, 1), (3, 2), (-5, 1), (-3, 2)])

    def test_zero_below(self):
        for top in (0, 1, -1, GREAT):
            with self.assertRaises(ZeroDivisionError):
                Ratio(top, 0)


class SumsTest(Case):
    def look_at(self, found, wanted):
        self.assertIs(type(found), Ratio)
        self.same((found.top, found.bottom), (wanted.numerator, wanted.denominator))

    def test_with_ratios_and_numbers(self):
        for top, bottom in SMALL:
            one = Ratio(top, bottom)
            for other in [Ratio(*terms) for terms in SMALL[::5]] + [-3, -1, 0, 1, 2, 5]:
                first, second = exact(one), exact(other)
                self.look_at(one + other, first + second)
                self.look_at(one - other, first - second)
                self.look_at(one * other, first * second)
                self.look_at(other + one, second + first)
                self.look_at(other - one, second - first)
                self.look_at(other * one, second * first)
                self.same(one.compare(other), (first > second) - (first < second))
                self.same([one == other, other == one, one != other], [first == second, first == second, first != second])
                if second:
                    self.same(one // other, first // second)
                    self.look_at(one.over(other), first / second)

    def test_of_one(self):
        for top, bottom in SMALL:
            one = Ratio(top, bottom)
            self.look_at(-one, -exact(one))
            self.look_at(abs(one), abs(exact(one)))
            self.same([one.floor(), one.ceiling(), bool(one)],
                      [exact(one).__floor__(), exact(one).__ceil__(), top != 0])

    def test_above_and_below_0(self):
        half, less = Ratio(7, 2), Ratio(-7, 2)
        self.same([half.floor(), half.ceiling(), less.floor(), less.ceiling(), Ratio(6, 2).floor(), Ratio(6, 2).ceiling()],
                  [3, 4, -4, -3, 3, 3])
        self.same([half // 2, less // 2, half // -2, less // -2, half // Ratio(1, 3), less // Ratio(1, 3), half // half],
                  [1, -2, -2, 1, 10, -11, 1])
        self.same([half.compare(less), less.compare(half), half.compare(Ratio(14, 4)), half.compare(3), half.compare(4),
                   Ratio(3).compare(3), less.compare(other=-3)], [1, -1, 0, 1, -1, 0, -1])
        self.look_at(half.over(other=less), Fraction(-1))

    def test_division_by_zero(self):
        for zero in (0, Ratio(0), Ratio(0, -3)):
            for one in (Ratio(1, 2), Ratio(0), Ratio(-5)):
                with self.assertRaises(ZeroDivisionError):
                    one // zero
                with self.assertRaises(ZeroDivisionError):
                    one.over(zero)

    def test_great_numbers(self):
        chance = random.Random(5)
        for _ in range(100):
            one = Ratio(chance.randrange(-GREAT, GREAT), chance.randrange(1, GREAT))
            other = Ratio(chance.randrange(-GREAT, GREAT), -chance.randrange(1, GREAT))
            total = Ratio(1)
            for _ in range(20):
                total = total * one + other
            wanted = Fraction(1)
            for _ in range(20):
                wanted = wanted * exact(one) + exact(other)
            self.look_at(total, wanted)
            self.same([total.floor(), total.ceiling(), total // one, total.compare(other)],
                      [wanted.__floor__(), wanted.__ceil__(), wanted // exact(one),
                       (wanted > exact(other)) - (wanted < exact(other))])
            self.assertEqual(Ratio.read(str(total)), total)

    def test_other_values_are_no_terms(self):
        for value in (None, "1", (1,), [1]):
            for call in (lambda: Ratio(1) + value, lambda: value + Ratio(1), lambda: Ratio(1) - value, lambda: value - Ratio(1),
                         lambda: Ratio(1) * value, lambda: value * Ratio(1), lambda: Ratio(1) // value):
                with self.assertRaises(TypeError):
                    call()

    def test_they_do_not_change(self):
        one, other = Ratio(1, 2), Ratio(-3, 4)
        for _ in (one + other, one - other, one * other, one // other, one.over(other), -one, abs(other), one + 1, 1 - one):
            self.same([one.top, one.bottom, other.top, other.bottom], [1, 2, -3, 4])


class EqualTest(Case):
    def test_with_numbers(self):
        self.same([Ratio(3) == 3, 3 == Ratio(3), Ratio(6, 2) == 3, Ratio(3, 2) == 1, Ratio(3, 2) == 3, Ratio(0) == 0,
                   Ratio(-2) == -2, Ratio(3) != 3, Ratio(3) != 4], [True, True, True, False, False, True, True, False, True])
        self.same([Ratio(10 ** 40) == 10 ** 40, Ratio(10 ** 40) == 10 ** 40 + 1], [True, False])

    def test_with_ratios(self):
        self.same([Ratio(1, 2) == Ratio(2, 4), Ratio(1, 2) == Ratio(-1, -2), Ratio(1, 2) == Ratio(1, 3),
                   Ratio(1, 2) == Ratio(-1, 2), Ratio(1, 2) == Ratio(3, 2)], [True, True, False, False, False])

    def test_with_other_values(self):
        for value in ANYTHING + ["1", "0", "1/2", 1.0, Fraction(1)]:
            for one in (Ratio(1), Ratio(0), Ratio(1, 2)):
                wanted = type(value) is int and one.bottom == 1 and one.top == value
                self.same([one == value, value == one], [wanted, wanted])
        self.same([Ratio(1) == True, Ratio(0) == False, Ratio(1) != True], [False, False, True])


class TextTest(Case):
    def test_str_and_repr(self):
        self.same([str(Ratio(7, 2)), str(Ratio(3)), str(Ratio(-7, 2)), str(Ratio(-3)), str(Ratio(0)), str(Ratio(4, -8))],
                  ["7/2", "3", "-7/2", "-3", "0", "-1/2"])
        self.same([repr(Ratio(7, 2)), repr(Ratio(3)), repr(Ratio(2, -4)), repr(Ratio(0))],
                  ["Ratio(7, 2)", "Ratio(3, 1)", "Ratio(-1, 2)", "Ratio(0, 1)"])

    def test_there_and_back(self):
        for top, bottom in SMALL + [(GREAT, GREAT - 1), (-GREAT, 7), (10 ** 40, 3 ** 50), (1, 10 ** 1000)]:
            one = Ratio(top, bottom)
            found = Ratio.read(str(one))
            self.same([found.top, found.bottom], [one.top, one.bottom])
        self.assertEqual(Ratio.read(text="7/2"), Ratio(7, 2))

    def test_longer_than_python_reads_at_once(self):
        for text in ("7" * 6000, "-" + "7" * 5999, "1" + "0" * 2999 + "/" + "3" * 3000, "1/" + "7" * 5998):
            self.assertTrue(str(Ratio.read(text)) == text)
        self.assertTrue(Ratio.read("7" * 6000).top == (10 ** 6000 - 1) // 9 * 7)
        self.refused(InvalidText(1), Ratio.read, "7" * 5999 + "x")
        self.refused(InvalidText(1), Ratio.read, "0" + "7" * 5999)

    def test_wrong_texts(self):
        for text in ("", "4/2", "3/1", "0/1", "0/5", "-0", "-0/1", "1/0", "0/0", "+1", "01", "1/02", "00", "1/-2", "-1/-2",
                     "--1", "-", "/", "1/", "/2", "-/2", "1/2/3", "1//2", " 1", "1 ", "1 /2", "1/ 2", "1.0", "1,5", "1_0",
                     "1e3", "x", "7/x", "6/4", "-6/4", "\n", "1\n", "7/2\n", "None", "Ratio(7, 2)", "\u0663", "\u00b2", "1/\u0663"):
            self.refused(InvalidText(1), Ratio.read, text)

    def test_values_that_are_no_strings(self):
        for value in ANYTHING + [Ratio(1), (1, 2), ["7/2"]]:
            if not isinstance(value, str):
                self.refused(InvalidText(1), Ratio.read, value)


if __name__ == "__main__":
    unittest.main()
