"""Tests of seriesforms.values, with a plain calculation that goes by the table of the document."""

import itertools
import random
import unittest

from kit import NO_FORMULAS, NO_INTEGERS, ODD, STRANGE, Kit, Same, fraction, plain_value, random_formula

from seriesforms import values
from seriesforms.errors import InvalidData, InvalidLength, NoSeries, NotAFormula
from seriesforms.formulas import Formula
from seriesforms.ratios import Ratio
from seriesforms.series import Series
from seriesforms.values import value

X = Formula.letter("x")
Z = Formula.letter("z")
Y = Formula.letter("y", full=True)
HALF = Ratio(1, 2)

# Each kind of step over x, with all counts that matter.
OVER_ONE = [
    X, -X, HALF * X, 0 * X,
    *[X >> count for count in (1, 2, 3, 8)], *[X << count for count in (1, 2, 3, 8)],
    X.total(), *[X.total(every) for every in (2, 3, 4, 12)],
    *[X.moving(wide, least) for wide in (2, 3, 4, 7) for least in range(1, wide + 1)],
    *[X.average(wide, least) for wide in (2, 3, 4, 7) for least in range(1, wide + 1)],
    *[X.smooth(weight) for weight in (0, 1, 2, -1, HALF, Ratio(-2, 3))],
    X.filled(), X.gaps(), X.age(),
    *[X.season(modulus, remainder) for modulus in (2, 3, 12) for remainder in range(modulus)],
    *[X.head(count) for count in (1, 2, 5, 8)], *[X.rest(count) for count in (1, 2, 5, 8)],
    *[X.tally(wide) for wide in (2, 3, 7)],
]
OVER_TWO = [X + Z, X - Z, X | Z, X & Z, X.since(Z)]


def row_of(pattern, numbers=(3, -1, Ratio(1, 2), 7, 10, Ratio(-5, 3), 2, 0, 11, 4, -6, 1, 9)):
    """The series with gaps where the pattern has 1."""
    return Series(tuple(None if gap else numbers[place % 13] for place, gap in enumerate(pattern)))


class ValuesTest(Kit):
    def check(self, formula, data, length):
        with self.subTest(formula=str(formula), data={name: str(row) for name, row in data.items()}):
            found = value(formula, data, length)
            self.assertIs(type(found), Series)
            self.assertEqual([fraction(entry) for entry in found.entries], plain_value(formula, data, length))

    def test_each_step_over_all_gaps(self):
        for length in range(6):
            for pattern in itertools.product((0, 1), repeat=length):
                for formula in OVER_ONE:
                    self.check(formula, {"x": row_of(pattern)}, length)

    def test_each_step_over_longer_series(self):
        source = random.Random(7)
        for formula in OVER_ONE:
            for share in (0.0, 0.2, 0.5, 0.8):
                row = row_of([source.random() < share for _ in range(30)])
                self.check(formula, {"x": row}, 30)

    def test_each_step_over_two(self):
        for length in range(5):
            for one in itertools.product((0, 1), repeat=length):
                for two in itertools.product((0, 1), repeat=length):
                    for formula in OVER_TWO:
                        data = {"x": row_of(one), "z": row_of(two)}
                        self.check(formula, data, length)

    def test_gaps_at_the_edges(self):
        self.assertEqual(str(value(X.total(), {"x": Series.read("_ 1 _ 2 _")}, 5)), "_ 1 _ 3 _")
        self.assertEqual(str(value(X.total(2), {"x": Series.read("1 2 3 _ _ 5 6")}, 7)), "1 3 3 _ _ 5 6")
        self.assertEqual(str(value(X.total(2), {"x": Series.read("1 _ _ 4")}, 4)), "1 _ _ 4")
        self.assertEqual(str(value(X.filled(), {"x": Series.read("_ _ 1 _ 2 _")}, 6)), "_ _ 1 1 2 2")
        self.assertEqual(str(value(X.age(), {"x": Series.read("_ _ 1 _ _ 2")}, 6)), "_ _ 0 1 2 0")
        self.assertEqual(str(value(X.smooth(HALF), {"x": Series.read("_ 4 _ 8 0")}, 5)), "_ 4 _ 6 3")
        self.assertEqual(str(value(X.moving(3, 2), {"x": Series.read("1 _ 2 _ _ 3 4")}, 7)), "_ _ 3 _ _ _ 7")
        self.assertEqual(str(value(X.average(3), {"x": Series.read("1 _ 2 _ _ 3 4")}, 7)), "1 1 3/2 2 2 3 7/2")
        self.assertEqual(str(value(X.average(3), {"x": Series.read("_ _ _ 5")}, 4)), "_ _ _ 5")
        self.assertEqual(str(value(X.tally(3), {"x": Series.read("1 _ 2 _ _ _")}, 6)), "1 1 2 1 1 0")
        self.assertEqual(str(value(X >> 2, {"x": Series.read("1 _ 2")}, 3)), "_ _ 1")
        self.assertEqual(str(value(X >> 8, {"x": Series.read("1 _ 2")}, 3)), "_ _ _")
        self.assertEqual(str(value(X << 8, {"x": Series.read("1 _ 2")}, 3)), "_ _ _")
        self.assertEqual(str(value(X << 2, {"x": Series.read("1 _ 2")}, 3)), "2 _ _")
        self.assertEqual(str(value((X << 1) >> 1, {"x": Series.read("1 2 3")}, 3)), "_ 2 3")
        self.assertEqual(str(value((X >> 1) << 1, {"x": Series.read("1 2 3")}, 3)), "1 2 _")

    def test_sums_of_nothing(self):
        data = {"x": Series.read("_ _ 5"), "z": Series.read("1 _ _")}
        self.assertEqual(str(value(X.since(Z), data, 3)), "0 0 5")
        self.assertEqual(str(value(Z.since(X), data, 3)), "_ _ 0")

    def test_formulas_without_letters(self):
        for length in range(5):
            self.check(Formula.constant(HALF), {}, length)
            self.check(Formula.clock(), {}, length)
            self.check(Formula.clock().total() - (Formula.clock() >> 2), {}, length)
        self.assertEqual(str(value(Formula.clock(), {}, 4)), "0 1 2 3")

    def test_formulas_of_several_steps(self):
        source = random.Random(3)
        for turn in range(700):
            formula = random_formula(source, [X, Y, Z], 5)
            length = source.choice([0, 1, 2, 3, 5, 9, 14])
            data = {
                "x": row_of([source.random() < 0.4 for _ in range(length)]),
                "y": row_of([False] * length),
                "z": row_of([source.random() < 0.7 for _ in range(length)]),
            }
            self.check(formula, data, length)

    def test_long_series(self):
        row = Series(tuple(None if place % 5 == 2 else place for place in range(2000)))
        total = value(X.total(), {"x": row}, 2000)
        self.assertEqual(total.entries[1999], sum(place for place in range(2000) if place % 5 != 2))
        self.assertEqual(total.missing, row.missing)
        self.assertEqual(value(X.moving(7).filled() >> 8, {"x": row}, 2000).entries[1000], sum(
            place for place in range(986, 993) if place % 5 != 2))


class DataTest(Kit):
    def test_further_keys_do_no_harm(self):
        plain = value(X.moving(2), {"x": Series.read("1 2 _")}, 3)
        more = {"x": Series.read("1 2 _"), "y": 5, "z": Series(()), 7: None, None: "a", ("x",): [], "X": 1, b"x": Series(())}
        self.assertEqual(value(X.moving(2), more, 3), plain)
        self.assertEqual(value(Formula.clock(), {"clock": 1, 0: 0}, 3), Series((0, 1, 2)))

    def test_by_name(self):
        self.assertEqual(value(length=2, data={"x": Series((1, 2))}, formula=-X), Series((-1, -2)))

    def test_given_data_stay(self):
        row = Series((1, None, 3))
        data = {"x": row, "other": 5}
        first = value(X.total(), data, 3)
        self.assertEqual(data, {"x": row, "other": 5})
        self.assertIs(data["x"], row)
        self.assertEqual(str(row), "1 _ 3")
        self.assertEqual(value(X.total(), data, 3), first)
        data["x"] = Series((0, 0, 0))
        self.assertEqual(str(first), "1 _ 4")

    def test_no_formula(self):
        for given in NO_FORMULAS:
            with self.subTest(given=repr(given)):
                self.refused(NotAFormula, given, value, given, {}, 0)
                self.refused(NotAFormula, given, value, given, None, None)
                self.refused(NotAFormula, given, value, length=-1, data=[], formula=given)

    def test_no_dict(self):
        for data in [*STRANGE, 0, 1, "x", X, Series((1,)), [("x", Series((1,)))], Ratio(1)]:
            with self.subTest(data=repr(data)):
                self.refused(InvalidData, data, value, X, data, 1)
                self.refused(InvalidData, data, value, X, data, None)
                self.refused(InvalidData, data, value, Formula.clock(), data, -1)
                self.refused(InvalidData, data, value, length=1, data=data, formula=X)

    def test_no_length(self):
        for length in [*NO_INTEGERS, -1, -10**39, X, "1"]:
            with self.subTest(length=repr(length)):
                self.refused(InvalidLength, length, value, X, {"x": Series((1,))}, length)
                self.refused(InvalidLength, length, value, X, {}, length)
                self.refused(InvalidLength, length, value, formula=Formula.clock(), data={}, length=length)

    def test_no_series(self):
        formula = Z + X - Y
        good = {"x": Series((1, None)), "y": Series((1, 2)), "z": Series((None, None))}
        self.assertEqual(str(value(formula, good, 2)), "_ _")
        wrongs = [*STRANGE, 0, 1, "x", "1 2", X, {}, (1, 2), [1, 2], ODD, Same(), Series(()), Series((1,)), Series((1, 2, 3))]
        for name in "xyz":
            for wrong in wrongs:
                with self.subTest(name=name, wrong=repr(wrong)):
                    self.refused(NoSeries, name, value, formula, {**good, name: wrong}, 2)
            without = {other: row for other, row in good.items() if other != name}
            self.refused(NoSeries, name, value, formula, without, 2)
        for row in ["_ 1", "1 _", "_ _"]:
            self.refused(NoSeries, "y", value, formula, {**good, "y": Series.read(row)}, 2)
            value(formula, {**good, "x": Series.read(row)}, 2)

    def test_the_least_name_is_told(self):
        formula = Z + X - Y
        self.refused(NoSeries, "x", value, formula, {}, 2)
        self.refused(NoSeries, "y", value, formula, {"x": Series((1, 1)), "y": Series((1, None))}, 2)
        self.refused(NoSeries, "x", value, formula, {"x": Series(()), "y": Series((1, None)), "z": None}, 2)
        self.refused(NoSeries, "z", value, formula, {"x": Series((1, 1)), "y": Series((1, 1)), "z": (1, 1)}, 2)
        self.refused(NoSeries, "x", value, formula, {"x": Series((1,)), "y": Series((1,)), "z": Series((1,))}, 0)

    def test_order_of_errors(self):
        self.refused(NotAFormula, 5, value, 5, [], -1)
        self.refused(InvalidData, None, value, X, None, -1)
        self.refused(InvalidLength, -1, value, X, {}, -1)
        self.refused(NoSeries, "x", value, X, {}, 0)


class InterfaceTest(unittest.TestCase):
    def test_defined_here(self):
        self.assertEqual(value.__module__, values.__name__)

    def test_example_of_the_document(self):
        x, y = Formula.letter("x"), Formula.letter("y")
        data = {"x": Series.read("1 _ 3 4 _"), "y": Series.read("_ 2 _ _ 1")}
        one = [x.total(), x.moving(2), x.average(3, 2), x.filled() >> 1, x << 1]
        self.assertEqual(
            [str(value(formula, data, 5)) for formula in one],
            ["1 _ 4 8 _", "1 1 3 7 4", "_ _ 2 7/2 7/2", "_ 1 1 3 4", "_ 3 4 _ _"],
        )
        two = [x.since(y), x.smooth(3), y | x, y.age(), x.gaps() + x.tally(2)]
        self.assertEqual(
            [str(value(formula, data, 5)) for formula in two],
            ["_ 0 3 7 0", "1 _ 7 -2 _", "1 2 3 4 1", "_ 0 1 2 0", "1 2 1 2 2"],
        )


if __name__ == "__main__":
    unittest.main()
