"""Tests of seriesforms.ratios, with Python's own fractions to compare with."""

import operator
import unittest
from fractions import Fraction

from seriesforms.errors import AnswerError, DividedByZero, GivenError, InvalidCount, InvalidNumber, InvalidText
from seriesforms.ratios import Ratio

FORTY = 1234567890123456789012345678901234567890
OTHER_FORTY = 9876543210987654321098765432109876543216

NO_NUMBERS = [True, False, None, "1", "", "1/2", b"1", (), (1,), (1, 2), [1], {1: 2}, {1}, object(), int, Ratio]

FRACTIONS = sorted(
    {Fraction(top, bottom) for top in range(-7, 8) for bottom in (1, 2, 3, 4, 6, 7)}
    | {Fraction(FORTY, OTHER_FORTY), Fraction(-FORTY, 7), Fraction(3, OTHER_FORTY), Fraction(FORTY), Fraction(-FORTY)}
)

INTEGERS = [*range(-7, 8), FORTY, -FORTY]


def ratio(fraction):
    return Ratio(fraction.numerator, fraction.denominator)


class Kit(unittest.TestCase):
    def check(self, found, fraction):
        """That a Ratio in lowest terms was found, of this value."""
        self.assertIs(type(found), Ratio)
        self.assertEqual((found.top, found.bottom), (fraction.numerator, fraction.denominator))
        self.assertEqual((type(found.top), type(found.bottom)), (int, int))

    def refused(self, error, given, action, *arguments, **named):
        """That the call raises this very class of errors, with this very object."""
        with self.assertRaises(GivenError) as context:
            action(*arguments, **named)
        self.assertIs(type(context.exception), error)
        self.assertIs(context.exception.given, given)

    def divided(self, action, *arguments, **named):
        with self.assertRaises(AnswerError) as context:
            action(*arguments, **named)
        self.assertIs(type(context.exception), DividedByZero)


class MakingTest(Kit):
    def test_lowest_terms(self):
        for top in range(-30, 31):
            for bottom in range(-30, 31):
                if bottom != 0:
                    with self.subTest(top=top, bottom=bottom):
                        self.check(Ratio(top, bottom), Fraction(top, bottom))

    def test_plain_values(self):
        self.assertEqual((Ratio(2, 4).top, Ratio(2, 4).bottom), (1, 2))
        self.assertEqual((Ratio(3, -6).top, Ratio(3, -6).bottom), (-1, 2))
        self.assertEqual((Ratio(-3, -6).top, Ratio(-3, -6).bottom), (1, 2))
        self.assertEqual((Ratio(0, -5).top, Ratio(0, -5).bottom), (0, 1))
        self.assertEqual((Ratio(8, -2).top, Ratio(8, -2).bottom), (-4, 1))

    def test_forty_digits(self):
        for top in (FORTY, -FORTY, FORTY * 6, 1, 0):
            for bottom in (OTHER_FORTY, -OTHER_FORTY, FORTY, -FORTY, 6, -1):
                with self.subTest(top=top, bottom=bottom):
                    self.check(Ratio(top, bottom), Fraction(top, bottom))

    def test_without_a_bottom(self):
        for top in INTEGERS:
            with self.subTest(top=top):
                self.check(Ratio(top), Fraction(top))

    def test_by_name(self):
        self.check(Ratio(top=-6, bottom=4), Fraction(-3, 2))
        self.check(Ratio(bottom=4, top=-6), Fraction(-3, 2))
        self.check(Ratio(-6, bottom=4), Fraction(-3, 2))
        self.check(Ratio(top=5), Fraction(5))

    def test_wrong_top(self):
        for value in [*NO_NUMBERS, Ratio(1)]:
            with self.subTest(value=repr(value)):
                self.refused(InvalidNumber, value, Ratio, value)
                self.refused(InvalidNumber, value, Ratio, value, 3)
                self.refused(InvalidNumber, value, Ratio, top=value)

    def test_wrong_bottom(self):
        for value in [*NO_NUMBERS, Ratio(1)]:
            with self.subTest(value=repr(value)):
                self.refused(InvalidNumber, value, Ratio, 3, value)
                self.refused(InvalidNumber, value, Ratio, 0, value)
                self.refused(InvalidNumber, value, Ratio, 3, bottom=value)

    def test_bottom_zero(self):
        for top in INTEGERS:
            with self.subTest(top=top):
                self.divided(Ratio, top, 0)
                self.divided(Ratio, bottom=0, top=top)

    def test_order_of_errors(self):
        for value in NO_NUMBERS:
            with self.subTest(value=repr(value)):
                self.refused(InvalidNumber, value, Ratio, value, 0)
                self.refused(InvalidNumber, value, Ratio, value, "other")
                self.refused(InvalidNumber, value, Ratio, bottom="other", top=value)
                self.refused(InvalidNumber, value, Ratio, bottom=0, top=value)

    def test_properties_cannot_be_set(self):
        half = Ratio(1, 2)
        with self.assertRaises(AttributeError):
            half.top = 3
        with self.assertRaises(AttributeError):
            half.bottom = 3
        self.check(half, Fraction(1, 2))

    def test_defined_here(self):
        self.assertEqual((Ratio.__module__, Ratio.__name__), ("seriesforms.ratios", "Ratio"))
        for name in ("read", "top", "bottom", "over", "power"):
            with self.subTest(name=name):
                self.assertIn(name, vars(Ratio))


class TextsTest(Kit):
    def test_str(self):
        for value in FRACTIONS:
            with self.subTest(value=value):
                self.assertEqual(str(ratio(value)), str(value))
        self.assertEqual([str(Ratio(0)), str(Ratio(-3)), str(Ratio(10, 12))], ["0", "-3", "5/6"])
        self.assertEqual([str(Ratio(3, -6)), str(Ratio(FORTY))], ["-1/2", str(FORTY)])

    def test_repr(self):
        self.assertEqual(repr(Ratio(5, 6)), "Ratio(5, 6)")
        self.assertEqual(repr(Ratio(2)), "Ratio(2, 1)")
        self.assertEqual(repr(Ratio(0, 7)), "Ratio(0, 1)")
        self.assertEqual(repr(Ratio(10, -4)), "Ratio(-5, 2)")
        for value in FRACTIONS:
            with self.subTest(value=value):
                self.assertEqual(repr(ratio(value)), f"Ratio({value.numerator}, {value.denominator})")

    def test_read_gives_back(self):
        for value in FRACTIONS:
            with self.subTest(value=value):
                self.check(Ratio.read(str(value)), value)
                self.check(Ratio.read(text=str(value)), value)

    def test_read_each_form(self):
        for text, value in [
            ("0", Fraction(0)),
            ("7", Fraction(7)),
            ("10", Fraction(10)),
            ("-3", Fraction(-3)),
            ("-10", Fraction(-10)),
            ("5/6", Fraction(5, 6)),
            ("-5/6", Fraction(-5, 6)),
            ("1/2", Fraction(1, 2)),
            ("-1/10", Fraction(-1, 10)),
            ("100/3", Fraction(100, 3)),
            (str(FORTY), Fraction(FORTY)),
            (f"-{FORTY}/{OTHER_FORTY // 6 + 1}", Fraction(-FORTY, OTHER_FORTY // 6 + 1)),
        ]:
            with self.subTest(text=text):
                self.check(Ratio.read(text), value)
                self.assertEqual(str(Ratio.read(text)), text)

    def test_read_all_short_texts(self):
        """Of all texts of up to four of these characters, just those that str gives are read."""
        signs = "-+/012 "
        texts = [""]
        for _ in range(4):
            texts = texts + [text + sign for text in texts if len(text) == len(texts[-1]) for sign in signs]
        tops = range(-999, 1000)
        bottoms = range(1, 100)
        known = {str(Fraction(top, bottom)) for top in tops for bottom in bottoms} | {str(top) for top in range(10000)}
        self.assertEqual(len(texts), 1 + 7 + 49 + 343 + 2401)
        for text in texts:
            with self.subTest(text=text):
                if text in known:
                    self.check(Ratio.read(text), Fraction(text))
                else:
                    self.refused(InvalidText, text, Ratio.read, text)

    def test_read_near_texts(self):
        for text in [
            "", " ", "-", "/", "+", ".", "_",
            "00", "01", "-01", "007", "-0", "-00", "+0", "+1", "--1", "-+1", "1-", "- 1", "-1-",
            " 1", "1 ", "1 2", "1\n", "\t1", " 1/2", "1/2 ", "1 /2", "1/ 2",
            "1/0", "0/0", "5/1", "0/1", "-5/1", "-5/0", "0/2", "-0/2", "0/5", "2/4", "-2/4", "6/3", "3/3", "10/15",
            "1/-2", "-1/-2", "1/+2", "+1/2", "--1/2", "1//2", "1/2/3", "1/", "/2", "-/2", "1/02", "01/2", "-01/2",
            "1/00", "1.5", "1e3", "0x1", "1_0", "1,5", "1/2_0", "a", "1a", "x/2", "1/x", "None", "True", "nan", "inf",
            "(1)", "1\\2", "2:3", "\u0661", "1/\u0662", "\u00b2", "3\u00b2", "\u00bd", "\u22121", "1\u20442", "1\u00a0",
            f"{2 * FORTY}/{2 * OTHER_FORTY}",
        ]:
            with self.subTest(text=text):
                self.refused(InvalidText, text, Ratio.read, text)

    def test_read_what_is_no_string(self):
        for value in [True, False, None, 0, 5, -3, Ratio(1, 2), b"1", b"", ("1",), ["1"], {"1": 1}, {"1"}, object(), str]:
            with self.subTest(value=repr(value)):
                self.refused(InvalidText, value, Ratio.read, value)
                self.refused(InvalidText, value, Ratio.read, text=value)


class EqualityTest(Kit):
    def test_two_ratios(self):
        for left in FRACTIONS:
            for right in FRACTIONS:
                with self.subTest(left=left, right=right):
                    self.assertIs(ratio(left) == ratio(right), left == right)
                    self.assertIs(ratio(left) != ratio(right), left != right)

    def test_with_an_integer_from_both_sides(self):
        for left in FRACTIONS:
            for right in INTEGERS:
                with self.subTest(left=left, right=right):
                    self.assertIs(ratio(left) == right, left == right)
                    self.assertIs(right == ratio(left), left == right)
                    self.assertIs(ratio(left) != right, left != right)
                    self.assertIs(right != ratio(left), left != right)

    def test_examples(self):
        self.assertIs(Ratio(2) == 2, True)
        self.assertIs(2 == Ratio(4, 2), True)
        self.assertIs(Ratio(5, 2) == 5, False)
        self.assertIs(Ratio(5, 2) == 2, False)
        self.assertIs(Ratio(1, 2) != Ratio(2, 4), False)

    def test_with_nothing_else(self):
        for value in [Ratio(1), Ratio(0), Ratio(1, 2), Ratio(2)]:
            others = [True, False, None, "1", "0", "1/2", "Ratio(1, 1)", b"1", (1, 1), (0, 1), (1, 2), (2,), [1, 1], {}]
            for other in [*others, {1}, object(), Ratio, int, [], ()]:
                with self.subTest(value=repr(value), other=repr(other)):
                    self.assertIs(value == other, False)
                    self.assertIs(other == value, False)
                    self.assertIs(value != other, True)
                    self.assertIs(other != value, True)

    def test_with_what_is_equal_to_all(self):
        class Anything:
            def __eq__(self, other):
                return True

        self.assertIs(Ratio(1) == Anything(), False)

    def test_truth(self):
        for value in FRACTIONS:
            with self.subTest(value=value):
                self.assertIs(bool(ratio(value)), value != 0)
        self.assertIs(bool(Ratio(0, 5)), False)
        self.assertIs(bool(Ratio(1, FORTY)), True)


class OperatorsTest(Kit):
    PLAIN = (operator.add, operator.sub, operator.mul)
    DIVIDING = (operator.floordiv, operator.mod)

    def both(self, action, left, right, fraction):
        """Checks the operator with Ratios, and with integers where one can stand."""
        self.check(action(ratio(left), ratio(right)), fraction)
        if left.denominator == 1:
            self.check(action(left.numerator, ratio(right)), fraction)
        if right.denominator == 1:
            self.check(action(ratio(left), right.numerator), fraction)

    def test_plain_operators(self):
        for action in self.PLAIN:
            for left in FRACTIONS:
                for right in FRACTIONS:
                    with self.subTest(action=action.__name__, left=left, right=right):
                        self.both(action, left, right, action(left, right))

    def test_dividing_operators(self):
        for action in self.DIVIDING:
            for left in FRACTIONS:
                for right in FRACTIONS:
                    if right != 0:
                        with self.subTest(action=action.__name__, left=left, right=right):
                            self.both(action, left, right, Fraction(action(left, right)))

    def test_rounded_down(self):
        self.check(Ratio(7, 2) // 1, Fraction(3))
        self.check(Ratio(-7, 2) // 1, Fraction(-4))
        self.check(Ratio(7, 2) // -1, Fraction(-4))
        self.check(Ratio(-7, 2) // -1, Fraction(3))
        self.check(-7 // Ratio(2), Fraction(-4))
        self.check(Ratio(-1, 2) % 3, Fraction(5, 2))
        self.check(Ratio(1, 2) % -3, Fraction(-5, 2))
        self.check(-1 % Ratio(3, 2), Fraction(1, 2))

    def test_divided_by_zero(self):
        for action in self.DIVIDING:
            for left in FRACTIONS:
                with self.subTest(action=action.__name__, left=left):
                    self.divided(action, ratio(left), 0)
                    self.divided(action, ratio(left), Ratio(0))
                    if left.denominator == 1:
                        self.divided(action, left.numerator, Ratio(0))

    def test_what_is_no_number_is_left_to_the_other_class(self):
        """The room that is left for formulas, which stand on the right of a Ratio or on its left."""

        class Told:
            def __radd__(self, other):
                return ("add", other)

            def __rsub__(self, other):
                return ("sub", other)

            def __rmul__(self, other):
                return ("mul", other)

        half, told = Ratio(1, 2), Told()
        self.assertEqual([half + told, half - told, half * told], [("add", half), ("sub", half), ("mul", half)])

    def test_truth_values_are_no_numbers(self):
        for action in self.PLAIN + self.DIVIDING:
            for value in (True, False):
                with self.subTest(action=action.__name__, value=value):
                    with self.assertRaises(TypeError):
                        action(Ratio(5, 2), value)
                    with self.assertRaises(TypeError):
                        action(value, Ratio(5, 2))

    def test_minus_and_abs(self):
        for value in FRACTIONS:
            with self.subTest(value=value):
                self.check(-ratio(value), -value)
                self.check(abs(ratio(value)), abs(value))

    def test_in_place(self):
        total = old = Ratio(1, 2)
        total += Ratio(1, 3)
        self.check(total, Fraction(5, 6))
        self.check(old, Fraction(1, 2))
        total -= 1
        self.check(total, Fraction(-1, 6))
        total *= -3
        self.check(total, Fraction(1, 2))
        total **= 3
        self.check(total, Fraction(1, 8))
        total %= Ratio(1, 10)
        self.check(total, Fraction(1, 40))
        total //= Ratio(1, 100)
        self.check(total, Fraction(2))
        self.check(old, Fraction(1, 2))
        count = 3
        count += old
        self.check(count, Fraction(7, 2))

    def test_sum(self):
        self.check(sum([Ratio(1, 2), Ratio(1, 3), 1]), Fraction(11, 6))

    def test_operands_stay_as_they_were(self):
        for value in FRACTIONS:
            left, right = ratio(value), Ratio(-7, 3)
            for action in self.PLAIN + self.DIVIDING:
                action(left, right)
            with self.subTest(value=value):
                found = [left.over(right), left**3, -left, abs(left), str(left), repr(left), left == right, bool(left)]
                self.assertEqual(len(found), 8)
                self.check(left, value)
                self.check(right, Fraction(-7, 3))


class OverTest(Kit):
    def test_quotients(self):
        for left in FRACTIONS:
            for right in FRACTIONS:
                if right != 0:
                    with self.subTest(left=left, right=right):
                        self.check(ratio(left).over(ratio(right)), left / right)
                        self.check(ratio(left).over(other=ratio(right)), left / right)
                        if right.denominator == 1:
                            self.check(ratio(left).over(right.numerator), left / right)

    def test_divided_by_zero(self):
        for left in FRACTIONS:
            with self.subTest(left=left):
                self.divided(ratio(left).over, 0)
                self.divided(ratio(left).over, Ratio(0))
                self.divided(ratio(left).over, other=0)

    def test_no_number(self):
        for left in (Ratio(0), Ratio(5, 2)):
            for value in NO_NUMBERS:
                with self.subTest(left=repr(left), value=repr(value)):
                    self.refused(InvalidNumber, value, left.over, value)
                    self.refused(InvalidNumber, value, left.over, other=value)


class PowerTest(Kit):
    def test_powers(self):
        for value in FRACTIONS:
            for exponent in range(-20, 21):
                if value != 0 or exponent >= 0:
                    with self.subTest(value=value, exponent=exponent):
                        self.check(ratio(value) ** exponent, value**exponent)
                        self.check(ratio(value).power(exponent), value**exponent)
                        self.check(ratio(value).power(exponent=exponent), value**exponent)

    def test_power_zero(self):
        for value in FRACTIONS:
            with self.subTest(value=value):
                self.check(ratio(value) ** 0, Fraction(1))
        self.check(Ratio(0).power(0), Fraction(1))

    def test_zero_to_a_negative_power(self):
        for exponent in range(-20, 0):
            with self.subTest(exponent=exponent):
                self.divided(Ratio(0).power, exponent)
                self.divided(operator.pow, Ratio(0), exponent)

    def test_wrong_exponents(self):
        values = [*NO_NUMBERS, 21, -21, 22, -22, 1000, -1000, FORTY, -FORTY, Ratio(2), Ratio(1, 2), Ratio(0), Ratio(-1)]
        for base in (Ratio(0), Ratio(1), Ratio(-5, 2)):
            for value in values:
                with self.subTest(base=repr(base), value=repr(value)):
                    self.refused(InvalidCount, value, base.power, value)
                    self.refused(InvalidCount, value, base.power, exponent=value)
                    self.refused(InvalidCount, value, operator.pow, base, value)


class ExampleTest(unittest.TestCase):
    def test_example_of_the_document(self):
        half = Ratio(2, 4)
        found = [
            str(1 - half),
            str(half * 3 // 1),
            str(-half % 3),
            str(Ratio(7, 2) // half),
            str(half**-2),
            str(abs(-half)),
            Ratio(4, 2) == 2,
            bool(half - half),
        ]
        self.assertEqual(found, ["1/2", "1", "5/2", "7", "4", "1/2", True, False])


if __name__ == "__main__":
    unittest.main()
