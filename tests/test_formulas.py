"""Tests of seriesforms.formulas."""

import operator
import random
import unittest

from kit import FORTY, NO_FORMULAS, NO_INTEGERS, NO_NUMBERS, ODD, STRANGE, Kit, Same, random_formula

from seriesforms.errors import (
    Clash,
    InvalidCount,
    InvalidName,
    InvalidNumber,
    InvalidTruth,
    NotAFormula,
    TooLarge,
)
from seriesforms.formulas import Formula
from seriesforms.ratios import Ratio
from seriesforms.series import Series

X = Formula.letter("x")
Z = Formula.letter("z")
Y = Formula.letter("y", full=True)
HALF = Ratio(1, 2)

# What is made; its text, kind, parts, numbers; full or not; size, levels, lead, load, width.
TABLE = [
    (X, "x", "letter", (), (), False, 1, 1, 0, 1, 0),
    (Y, "y", "letter", (), (), True, 1, 1, 0, 1, 0),
    (Formula.constant(-3), "-3", "constant", (), (Ratio(-3),), True, 1, 1, 0, 1, 0),
    (Formula.constant(HALF), "1/2", "constant", (), (HALF,), True, 1, 1, 0, 1, 0),
    (Formula.clock(), "clock", "clock", (), (), True, 1, 1, 0, 1, 1),
    (X + Z, "(x + z)", "sum", (X, Z), (), False, 3, 2, 0, 1, 0),
    (Y + Y, "(y + y)", "sum", (Y, Y), (), True, 3, 2, 0, 1, 0),
    (X - Y, "(x - y)", "difference", (X, Y), (), False, 3, 2, 0, 1, 0),
    (Y - Y, "(y - y)", "difference", (Y, Y), (), True, 3, 2, 0, 1, 0),
    (HALF * X, "(1/2 * x)", "scaled", (X,), (HALF,), False, 2, 2, 0, 1, 0),
    (0 * Y, "(0 * y)", "scaled", (Y,), (Ratio(0),), True, 2, 2, 0, 1, 0),
    (-X, "(-1 * x)", "scaled", (X,), (Ratio(-1),), False, 2, 2, 0, 1, 0),
    (X >> 3, "(x >> 3)", "later", (X,), (3,), False, 2, 2, 0, 8, 3),
    (Y >> 8, "(y >> 8)", "later", (Y,), (8,), False, 2, 2, 0, 9, 8),
    (X << 8, "(x << 8)", "sooner", (X,), (8,), False, 2, 2, 8, 1, 0),
    (Y << 1, "(y << 1)", "sooner", (Y,), (1,), False, 2, 2, 1, 1, 0),
    (X | Z, "(x | z)", "either", (X, Z), (), False, 3, 2, 0, 1, 0),
    (X | Y, "(x | y)", "either", (X, Y), (), True, 3, 2, 0, 1, 0),
    (Y | X, "(y | x)", "either", (Y, X), (), True, 3, 2, 0, 1, 0),
    (X & Y, "(x & y)", "both", (X, Y), (), False, 3, 2, 0, 1, 0),
    (Y & Y, "(y & y)", "both", (Y, Y), (), True, 3, 2, 0, 1, 0),
    (X.total(), "total(x)", "total", (X,), (0,), False, 2, 2, 0, 1, 1),
    (Y.total(), "total(y)", "total", (Y,), (0,), True, 2, 2, 0, 1, 1),
    (X.total(2), "total(x, 2)", "total", (X,), (2,), False, 2, 2, 0, 2, 1),
    (Y.total(every=12), "total(y, 12)", "total", (Y,), (12,), True, 2, 2, 0, 12, 1),
    (X.total(0), "total(x)", "total", (X,), (0,), False, 2, 2, 0, 1, 1),
    (X.moving(7, 3), "moving(x, 7, 3)", "moving", (X,), (7, 3), False, 2, 2, 0, 64, 6),
    (X.moving(2), "moving(x, 2, 1)", "moving", (X,), (2, 1), False, 2, 2, 0, 2, 1),
    (Y.moving(7), "moving(y, 7, 1)", "moving", (Y,), (7, 1), True, 2, 2, 0, 7, 6),
    (Y.moving(7, 2), "moving(y, 7, 2)", "moving", (Y,), (7, 2), False, 2, 2, 0, 7, 6),
    (X.average(5, least=5), "average(x, 5, 5)", "average", (X,), (5, 5), False, 2, 2, 0, 16, 4),
    (Y.average(5), "average(y, 5, 1)", "average", (Y,), (5, 1), True, 2, 2, 0, 5, 4),
    (Y.average(5, 2), "average(y, 5, 2)", "average", (Y,), (5, 2), False, 2, 2, 0, 5, 4),
    (X.smooth(HALF), "smooth(x, 1/2)", "smooth", (X,), (HALF,), False, 2, 2, 0, 2, 1),
    (Y.smooth(-2), "smooth(y, -2)", "smooth", (Y,), (Ratio(-2),), True, 2, 2, 0, 1, 1),
    (X.filled(), "filled(x)", "filled", (X,), (), False, 2, 2, 0, 2, 1),
    (Y.filled(), "filled(y)", "filled", (Y,), (), True, 2, 2, 0, 1, 1),
    (X.since(Z), "since(x, z)", "since", (X, Z), (), False, 3, 2, 0, 2, 1),
    (X.since(Y), "since(x, y)", "since", (X, Y), (), True, 3, 2, 0, 1, 1),
    (Y.since(X), "since(y, x)", "since", (Y, X), (), False, 3, 2, 0, 2, 1),
    (X.season(12, 0), "season(x, 12, 0)", "season", (X,), (12, 0), False, 2, 2, 0, 12, 0),
    (Y.season(2, 1), "season(y, 2, 1)", "season", (Y,), (2, 1), False, 2, 2, 0, 2, 0),
    (Y.head(8), "head(y, 8)", "head", (Y,), (8,), False, 2, 2, 0, 9, 0),
    (X.rest(1), "rest(x, 1)", "rest", (X,), (1,), False, 2, 2, 0, 2, 0),
    (X.gaps(), "gaps(x)", "gaps", (X,), (), True, 2, 2, 0, 1, 0),
    (X.tally(7), "tally(x, 7)", "tally", (X,), (7,), True, 2, 2, 0, 64, 0),
    (Y.tally(2), "tally(y, 2)", "tally", (Y,), (2,), True, 2, 2, 0, 2, 0),
    (X.age(), "age(x)", "age", (X,), (), False, 2, 2, 0, 2, 1),
    (Y.age(), "age(y)", "age", (Y,), (), True, 2, 2, 0, 1, 1),
    # Leads.
    ((X << 3) >> 1, "((x << 3) >> 1)", "later", (X << 3,), (1,), False, 3, 3, 2, 1, 0),
    ((X << 3) >> 3, "((x << 3) >> 3)", "later", (X << 3,), (3,), False, 3, 3, 0, 1, 0),
    ((X << 3) >> 8, "((x << 3) >> 8)", "later", (X << 3,), (8,), False, 3, 3, 0, 32, 5),
    ((X << 3).gaps() >> 5, "(gaps((x << 3)) >> 5)", "later", ((X << 3).gaps(),), (5,), False, 4, 4, 0, 3, 2),
    ((X >> 1) << 2, "((x >> 1) << 2)", "sooner", (X >> 1,), (2,), False, 3, 3, 2, 2, 1),
    (X + (Z << 3), "(x + (z << 3))", "sum", (X, Z << 3), (), False, 4, 3, 3, 8, 3),
    ((Z << 3) - X, "((z << 3) - x)", "difference", (Z << 3, X), (), False, 4, 3, 3, 8, 3),
    (Y & (Z << 3), "(y & (z << 3))", "both", (Y, Z << 3), (), False, 4, 3, 3, 1, 3),
    ((Z << 5) | (X << 1), "((z << 5) | (x << 1))", "either", (Z << 5, X << 1), (), False, 5, 3, 5, 16, 4),
    (X.since(Z << 2), "since(x, (z << 2))", "since", (X, Z << 2), (), False, 4, 3, 2, 8, 3),
    ((X << 2).since(Z), "since((x << 2), z)", "since", (X << 2, Z), (), False, 4, 3, 2, 8, 3),
    ((X << 2).since(Y), "since((x << 2), y)", "since", (X << 2, Y), (), True, 4, 3, 2, 1, 3),
    (Y.since(X << 2), "since(y, (x << 2))", "since", (Y, X << 2), (), False, 4, 3, 2, 2, 3),
    ((X << 2).moving(3), "moving((x << 2), 3, 1)", "moving", (X << 2,), (3, 1), False, 3, 3, 2, 4, 2),
    # Numbers beside formulas.
    (X + 2, "(x + 2)", "sum", (X, Formula.constant(2)), (), False, 3, 2, 0, 1, 0),
    (2 + Y, "(2 + y)", "sum", (Formula.constant(2), Y), (), True, 3, 2, 0, 1, 0),
    (X - HALF, "(x - 1/2)", "difference", (X, Formula.constant(HALF)), (), False, 3, 2, 0, 1, 0),
    (HALF - X, "(1/2 - x)", "difference", (Formula.constant(HALF), X), (), False, 3, 2, 0, 1, 0),
    (HALF + X, "(1/2 + x)", "sum", (Formula.constant(HALF), X), (), False, 3, 2, 0, 1, 0),
    (0 - X, "(0 - x)", "difference", (Formula.constant(0), X), (), False, 3, 2, 0, 1, 0),
    (X * 3, "(3 * x)", "scaled", (X,), (Ratio(3),), False, 2, 2, 0, 1, 0),
    (X * HALF, "(1/2 * x)", "scaled", (X,), (HALF,), False, 2, 2, 0, 1, 0),
]


class TableTest(Kit):
    def test_properties(self):
        for formula, text, kind, parts, numbers, full, size, levels, lead, load, width in TABLE:
            with self.subTest(text=text):
                self.assertIs(type(formula), Formula)
                self.assertEqual(str(formula), text)
                self.assertEqual(repr(formula), f"Formula('{text}')")
                self.assertEqual(formula.kind, kind)
                self.assertEqual(formula.parts, parts)
                self.assertEqual(formula.numbers, numbers)
                self.assertEqual([type(number) for number in formula.numbers], [type(number) for number in numbers])
                self.assertIs(formula.full, full)
                found = (formula.size, formula.levels, formula.lead, formula.load, formula.width)
                self.assertEqual(found, (size, levels, lead, load, width))
                self.assertEqual([type(number) for number in found], [int] * 5)
                self.assertEqual(formula.name, text if kind == "letter" else None)
                self.assertIs(bool(formula), True)

    def test_letters(self):
        self.assertEqual(X.letters, (X,))
        self.assertEqual(Y.letters, (Y,))
        self.assertEqual(Formula.constant(1).letters, ())
        self.assertEqual(Formula.clock().letters, ())
        self.assertEqual((Z + Y - X * 2 + Z).letters, (X, Y, Z))
        self.assertEqual([letter.full for letter in (Z.since(Y) | X).letters], [False, True, False])
        names = ["b", "a", "a_", "a1", "c", "a0", "ab"]
        formula = Formula.letter("zz")
        for name in names:
            formula = formula + Formula.letter(name)
        self.assertEqual([letter.name for letter in formula.letters], sorted([*names, "zz"]))
        self.assertIs(type(formula.letters), tuple)

    def test_in_place(self):
        formula = old = X
        formula += 1
        self.assertEqual(str(formula), "(x + 1)")
        formula -= Y
        formula *= 2
        formula >>= 1
        formula <<= 2
        formula |= X
        formula &= Z
        self.assertEqual(str(formula), "(((((2 * ((x + 1) - y)) >> 1) << 2) | x) & z)")
        self.assertIs(old, X)
        self.assertEqual(str(X), "x")

    def test_by_name(self):
        pairs = [
            (Formula.letter(name="x", full=True), Formula.letter("x", True)),
            (Formula.letter(full=False, name="x"), X),
            (Formula.constant(number=5), Formula.constant(5)),
            (X.total(every=3), X.total(3)),
            (X.moving(wide=3, least=2), X.moving(3, 2)),
            (X.moving(least=2, wide=3), X.moving(3, 2)),
            (X.average(wide=3, least=2), X.average(3, 2)),
            (X.average(wide=3), X.average(3, 1)),
            (X.smooth(weight=3), X.smooth(3)),
            (X.since(other=Z), X.since(Z)),
            (X.season(remainder=1, modulus=3), X.season(3, 1)),
            (X.head(count=3), X.head(3)),
            (X.rest(count=3), X.rest(3)),
            (X.tally(wide=3), X.tally(3)),
        ]
        for one, two in pairs:
            with self.subTest(text=str(two)):
                self.assertEqual(one, two)


def measured(formula):
    """Size, levels, lead, full, load and width by points 9 and 10, by another way than the program takes."""
    if formula.kind in ("letter", "constant", "clock"):
        full = formula.full if formula.kind == "letter" else True
        return 1, 1, 0, full, [], 1 if formula.kind == "clock" else 0
    parts = [measured(part) for part in formula.parts]
    size = 1 + sum(part[0] for part in parts)
    levels = 1 + max(part[1] for part in parts)
    leads = [part[2] for part in parts]
    fulls = [part[3] for part in parts]
    factors = [factor for part in parts for factor in part[4]]
    width = sum(part[5] for part in parts)
    kind, numbers, lead = formula.kind, formula.numbers, max(leads)
    full = {
        "sum": all(fulls), "difference": all(fulls), "scaled": all(fulls), "both": all(fulls), "either": any(fulls),
        "total": fulls[0], "smooth": fulls[0], "filled": fulls[0], "age": fulls[0], "gaps": True, "tally": True,
        "moving": fulls[0] and numbers[1:] == (1,), "average": fulls[0] and numbers[1:] == (1,),
        "since": fulls[-1],
    }.get(kind, False)
    if kind == "later":
        lead = max(0, lead - numbers[0])
        wait = max(0, numbers[0] - leads[0])
        factors.append(wait + 1 if fulls[0] else 2**wait)
        width += wait
    if kind == "sooner":
        lead += numbers[0]
    if len(parts) == 2:
        wait = max(leads) - min(leads)
        if not fulls[leads.index(min(leads))]:
            factors.append(2**wait)
        width += wait
    if kind in ("moving", "average", "tally"):
        factors.append(numbers[0] if fulls[0] else 2 ** (numbers[0] - 1))
        width += 0 if kind == "tally" else numbers[0] - 1
    if kind in ("smooth", "filled", "age", "since"):
        factors.append(1 if fulls[-1] else 2)
    if kind in ("total", "season"):
        factors.append(numbers[0] or 1)
    if kind in ("head", "rest"):
        factors.append(numbers[0] + 1)
    width += 1 if kind in ("total", "smooth", "filled", "since", "age") else 0
    return size, levels, lead, full, factors, width


class MeasuresTest(Kit):
    def test_formulas_of_several_steps(self):
        source = random.Random(9)
        for _ in range(1500):
            formula = random_formula(source, [X, Y, Z], 5)
            size, levels, lead, full, factors, width = measured(formula)
            load = 1
            for factor in factors:
                load *= factor
            with self.subTest(text=str(formula)):
                found = (formula.size, formula.levels, formula.lead, formula.load, formula.width)
                self.assertEqual(found, (size, levels, lead, load, width))
                self.assertIs(formula.full, full)

    def test_no_more_is_full(self):
        for formula in [Y >> 1, Y << 1, (Y << 1) >> 1, Y.season(2, 0), Y.head(8), Y.rest(1), Y.moving(2, 2), Y.average(3, 2),
                        X.total(), X.since(X), Y.since(X), X + Y, Y & X, X | X, X.moving(3), -X, X.filled(), X.age()]:
            with self.subTest(text=str(formula)):
                self.assertIs(formula.full, False)


class EqualityTest(Kit):
    def test_equal_if_the_texts_are(self):
        formulas = [row[0] for row in TABLE]
        for one in formulas:
            for two in formulas:
                with self.subTest(one=str(one), two=str(two)):
                    self.assertIs(one == two, str(one) == str(two))
                    self.assertIs(one != two, str(one) != str(two))

    def test_made_twice(self):
        self.assertEqual(Formula.letter("x").moving(3) + 1, X.moving(3) + Formula.constant(Ratio(2, 2)))
        self.assertEqual(-X, -1 * X)
        self.assertEqual(X * 2, 2 * X)
        self.assertEqual(X.total(), X.total(0))
        self.assertNotEqual(X + Z, Z + X)

    def test_alike_full_or_not(self):
        for make in [
            lambda letter: letter,
            lambda letter: letter + Z,
            lambda letter: (Z >> 1) | letter.total(3) & letter,
            lambda letter: letter.gaps(),
        ]:
            one, two = make(Formula.letter("x")), make(Formula.letter("x", True))
            self.assertEqual(str(one), str(two))
            self.assertIs(one == two, False)
            self.assertIs(one != two, True)
            self.assertIs(two == make(Formula.letter("x", True)), True)

    def test_equal_to_nothing_else(self):
        for formula in [X, Formula.constant(0), Formula.constant(1), Formula.clock(), X + 1]:
            for other in [*NO_FORMULAS, str(formula), "clock", (X,), [X]]:
                with self.subTest(formula=str(formula), other=repr(other)):
                    self.assertIs(formula == other, False)
                    self.assertIs(formula != other, True)


class NamesTest(Kit):
    def test_names(self):
        for name in ["a", "z", "x1", "x_", "a_b_c_d0", "abcdefgh", "z9999999", "clocks", "cloc", "totals", "ages", "agex", "t_"]:
            with self.subTest(name=name):
                for full in (True, False):
                    letter = Formula.letter(name, full)
                    self.assertEqual((letter.name, str(letter), letter.full), (name, name, full))

    def test_no_names(self):
        words = "clock total moving average smooth filled since season head rest gaps tally age".split()
        texts = ["", "X", "1", "1x", "_", "_x", "abcdefghi", "x y", " x", "x ", "x-", "x/2", "xY", "x.", "x\n", "\u00e4", "x\u00e4",
                 "x\u0661", "(x)", "-x"]
        for name in [*words, *texts, *STRANGE, 0, 1, Ratio(1), X, {}, Series(()), ["x"], ("x",), b"x"]:
            with self.subTest(name=repr(name)):
                self.refused(InvalidName, name, Formula.letter, name)
                self.refused(InvalidName, name, Formula.letter, name, True)
                self.refused(InvalidName, name, Formula.letter, name, "no truth")
                self.refused(InvalidName, name, Formula.letter, full=None, name=name)

    def test_no_truth(self):
        for full in [None, 0, 1, "", "True", (), [], Ratio(1), ODD, Same(), X, object(), bool]:
            with self.subTest(full=repr(full)):
                self.refused(InvalidTruth, full, Formula.letter, "x", full)
                self.refused(InvalidTruth, full, Formula.letter, full=full, name="x")

    def test_constants(self):
        for number in [0, 1, -1, FORTY, -FORTY, HALF, Ratio(-FORTY, 7)]:
            with self.subTest(number=str(number)):
                found = Formula.constant(number)
                self.assertEqual(str(found), str(number))
                self.assertEqual(found.numbers, (number,))
                self.assertIs(type(found.numbers[0]), Ratio)
        for number in [*NO_NUMBERS, X]:
            with self.subTest(number=repr(number)):
                self.refused(InvalidNumber, number, Formula.constant, number)
                self.refused(InvalidNumber, number, Formula.constant, number=number)


class WrongOperandsTest(Kit):
    def test_sums_and_differences(self):
        for action in (operator.add, operator.sub):
            for value in [*STRANGE, "x", "", {}, {"x": 1}, Series(())]:
                with self.subTest(action=action.__name__, value=repr(value)):
                    self.refused(NotAFormula, value, action, X, value)
                    self.refused(NotAFormula, value, action, value, X)

    def test_multiples(self):
        for value in [*STRANGE, "x", "", {}, {"x": 1}, Series(())]:
            with self.subTest(value=repr(value)):
                self.refused(InvalidNumber, value, operator.mul, X, value)
                self.refused(InvalidNumber, value, operator.mul, value, X)
        right = Z + 1
        self.refused(InvalidNumber, right, operator.mul, X, right)
        self.refused(InvalidNumber, X, operator.mul, X, X)

    def test_either_and_both(self):
        for action in (operator.or_, operator.and_):
            for value in NO_FORMULAS:
                with self.subTest(action=action.__name__, value=repr(value)):
                    self.refused(NotAFormula, value, action, X, value)

    def test_since(self):
        for value in NO_FORMULAS:
            with self.subTest(value=repr(value)):
                self.refused(NotAFormula, value, X.since, value)
                self.refused(NotAFormula, value, X.since, other=value)

    def test_shifts(self):
        for action in (operator.rshift, operator.lshift):
            for count in range(1, 9):
                self.assertEqual(action(X, count).numbers, (count,))
            for value in [*NO_INTEGERS, 0, -1, 9, 10, FORTY, -FORTY, X]:
                with self.subTest(action=action.__name__, value=repr(value)):
                    self.refused(InvalidCount, value, action, X, value)

    def test_counts(self):
        tables = [
            (X.total, {}, "every", {0, *range(2, 13)}),
            (X.moving, {}, "wide", set(range(2, 8))),
            (X.average, {}, "wide", set(range(2, 8))),
            (X.tally, {}, "wide", set(range(2, 8))),
            (X.head, {}, "count", set(range(1, 9))),
            (X.rest, {}, "count", set(range(1, 9))),
            (X.season, {"remainder": 0}, "modulus", set(range(2, 13))),
        ]
        for wide in range(2, 8):
            tables.append((X.moving, {"wide": wide}, "least", set(range(1, wide + 1))))
            tables.append((X.average, {"wide": wide}, "least", set(range(1, wide + 1))))
        for modulus in range(2, 13):
            tables.append((X.season, {"modulus": modulus}, "remainder", set(range(modulus))))
        for action, others, name, allowed in tables:
            for value in [*range(-3, 15), FORTY, -FORTY, *NO_INTEGERS, X, "1"]:
                with self.subTest(action=action.__name__, others=others, name=name, value=repr(value)):
                    if type(value) is int and value in allowed:
                        self.assertIn(value, action(**others, **{name: value}).numbers)
                    else:
                        self.refused(InvalidCount, value, action, **others, **{name: value})

    def test_the_first_count_comes_first(self):
        for value in [*NO_INTEGERS, 0, 1, 8, 13, -1]:
            with self.subTest(value=repr(value)):
                self.refused(InvalidCount, value, X.moving, value, 99)
                self.refused(InvalidCount, value, X.average, value, None)
                self.refused(InvalidCount, value, X.moving, least=0, wide=value)
        for value in [*NO_INTEGERS, 0, 1, 13, -1]:
            with self.subTest(value=repr(value)):
                self.refused(InvalidCount, value, X.season, value, 99)
                self.refused(InvalidCount, value, X.season, remainder=-1, modulus=value)
        self.refused(InvalidCount, 12, X.season, 12, 12)
        self.refused(InvalidCount, -1, X.season, 12, -1)
        self.refused(InvalidCount, 4, X.moving, 3, 4)

    def test_weights(self):
        for value in [*NO_NUMBERS, X, Formula.constant(1)]:
            with self.subTest(value=repr(value)):
                self.refused(InvalidNumber, value, X.smooth, value)
                self.refused(InvalidNumber, value, X.smooth, weight=value)

    def test_operands_stay_as_they_were(self):
        left, right = X.moving(3), Z << 2
        before = [str(left), str(right), left.load, right.lead, left.parts, right.letters]
        for value in (right, "x", None, 3, left):
            for action in (operator.add, operator.sub, operator.mul, operator.or_, operator.and_, operator.rshift):
                try:
                    action(left, value)
                except Exception:
                    pass
        self.assertEqual([str(left), str(right), left.load, right.lead, left.parts, right.letters], before)

    def test_nothing_can_be_set(self):
        for name in "kind parts numbers name full letters size levels lead load width".split():
            with self.subTest(name=name):
                with self.assertRaises(AttributeError):
                    setattr(X, name, 5)


def tower(formula, steps, step):
    for _ in range(steps):
        formula = step(formula)
    return formula


def broad(size, letter=X):
    """A sum of this odd size with few levels."""
    leaves = [letter] * ((size + 1) // 2)
    while len(leaves) > 1:
        pairs = [leaves[at:at + 2] for at in range(0, len(leaves), 2)]
        leaves = [pair[0] + pair[1] if len(pair) == 2 else pair[0] for pair in pairs]
    return leaves[0]


class LimitsTest(Kit):
    def test_clash(self):
        one, two = Formula.letter("y") + X, Y + Z
        for action in (operator.add, operator.sub, operator.or_, operator.and_, Formula.since):
            with self.subTest(action=action.__name__):
                self.refused(Clash, "y", action, one, two)
                self.refused(Clash, "y", action, two, one)

    def test_least_clash(self):
        names = ["c", "b", "a", "d"]
        one, two = Formula.constant(0), Formula.constant(0)
        for name in names:
            one = one + Formula.letter(name, name == "a")
            two = two + Formula.letter(name, name in ("b", "c", "a"))
        self.refused(Clash, "b", operator.add, one, two)
        self.refused(Clash, "b", operator.or_, two, one)

    def test_size(self):
        self.assertEqual(broad(59).size, 59)
        self.assertEqual((-broad(59)).size, 60)
        self.assertEqual((broad(29) + -broad(29)).size, 60)
        self.refused(TooLarge, 60, operator.add, broad(29), broad(31))
        self.refused(TooLarge, 60, operator.neg, -broad(59))
        self.refused(TooLarge, 60, operator.add, broad(59), 1)
        self.refused(TooLarge, 60, operator.sub, 1, broad(59))
        for step in [
            lambda f: f * 2, lambda f: f >> 1, lambda f: f << 1, lambda f: f | X, lambda f: f & X, lambda f: X.since(f),
            lambda f: f.total(), lambda f: f.moving(2), lambda f: f.average(2), lambda f: f.smooth(2),
            lambda f: f.filled(), lambda f: f.season(2, 0), lambda f: f.head(1), lambda f: f.rest(1),
            lambda f: f.gaps(), lambda f: f.tally(2), lambda f: f.age(), lambda f: f.since(X), lambda f: X + f,
        ]:
            self.refused(TooLarge, 60, step, -broad(59))

    def test_levels(self):
        formula = tower(X, 19, lambda inside: inside.filled())
        self.assertEqual((formula.levels, formula.size), (20, 20))
        self.refused(TooLarge, 20, formula.filled)
        self.refused(TooLarge, 20, operator.neg, formula)
        self.refused(TooLarge, 20, operator.add, X, formula)
        self.refused(TooLarge, 20, operator.add, formula, X)

    def test_lead(self):
        self.assertEqual((X << 8).lead, 8)
        self.assertEqual(((X << 3) << 5).lead, 8)
        self.assertEqual((((X << 8) >> 1) << 1).lead, 8)
        self.refused(TooLarge, 8, operator.lshift, X << 8, 1)
        self.refused(TooLarge, 8, operator.lshift, X << 1, 8)
        self.refused(TooLarge, 8, operator.lshift, ((X << 3) + Z) << 4, 2)

    def test_order_of_limits(self):
        high = tower(X, 19, lambda inside: inside.filled())
        wide = tower(X << 8, 18, lambda inside: inside.filled())
        self.assertEqual((wide.levels, wide.lead), (20, 8))
        self.refused(TooLarge, 20, operator.lshift, wide, 1)
        big = tower(broad(43) << 8, 13, lambda inside: -inside)
        self.assertEqual((big.size, big.levels, big.lead), (57, 20, 8))
        self.refused(TooLarge, 20, operator.lshift, big, 1)
        self.refused(TooLarge, 60, operator.add, big, high)
        self.refused(TooLarge, 60, operator.lshift, tower(broad(57) << 8, 2, lambda inside: -inside), 1)
        self.refused(TooLarge, 60, operator.add, big, broad(59))

    def test_errors_of_single_arguments_come_first(self):
        high = tower(X, 19, lambda inside: inside.filled())
        self.refused(InvalidCount, 9, operator.rshift, high, 9)
        self.refused(InvalidCount, 0, high.moving, 0)
        self.refused(NotAFormula, None, high.since, None)
        self.refused(InvalidNumber, None, high.smooth, None)
        self.refused(NotAFormula, "x", operator.or_, high, "x")

    def test_clash_comes_ahead_of_the_limits(self):
        high = tower(X, 19, lambda inside: inside.filled())
        self.refused(Clash, "x", operator.add, high, Formula.letter("x", True))
        self.refused(Clash, "x", operator.add, broad(59), broad(59, Formula.letter("x", True)))

    def test_nothing_is_left_of_a_refused_call(self):
        formula = broad(59)
        self.refused(TooLarge, 60, operator.add, formula, formula)
        self.assertEqual(formula, broad(59))
        self.assertEqual((formula.size, formula.levels), (59, 6))

    def test_loads_can_be_great(self):
        formula = tower(X, 9, lambda inside: inside.moving(7))
        self.assertEqual((formula.load, formula.width), (64**9, 54))


class InterfaceTest(unittest.TestCase):
    def test_defined_here(self):
        self.assertEqual((Formula.__module__, Formula.__name__), ("seriesforms.formulas", "Formula"))
        names = (
            "letter constant clock total moving average smooth filled since season head rest gaps tally age kind parts"
            " numbers name full letters size levels lead load width __add__ __sub__ __mul__ __neg__ __rshift__ __lshift__"
            " __or__ __and__ __radd__ __rsub__ __rmul__ __str__ __repr__ __eq__"
        )
        for name in names.split():
            with self.subTest(name=name):
                self.assertIn(name, vars(Formula))

    def test_example_of_the_document(self):
        x, y = Formula.letter("x"), Formula.letter("y", full=True)
        f = x.moving(7, least=3) - (x.total() - (x.total() >> 7))
        found = [
            str(f),
            f.load,
            f.width,
            f.full,
            str(1 - 2 * y),
            (y.total(every=4) << 2).lead,
            (x | y).full,
            x.season(12, 0).numbers,
        ]
        text = "(moving(x, 7, 3) - (total(x) - (total(x) >> 7)))"
        self.assertEqual(found, [text, 8192, 15, False, "(1 - (2 * y))", 2, True, (12, 0)])


if __name__ == "__main__":
    unittest.main()
