"""Tests of seriesforms.places, checked against a search through data of small lengths."""

import random
import unittest

from kit import NO_FORMULAS, Kit, data_with, heaviness, letters_of, patterns, random_formula, searched_gap, searched_starts
from kit import too_heavy

from seriesforms import places
from seriesforms.errors import Clash, NotAFormula, TooHeavy
from seriesforms.formulas import Formula
from seriesforms.places import alike_places, gap, never_gaps, starts
from seriesforms.series import Series
from seriesforms.values import value

X = Formula.letter("x")
Z = Formula.letter("z")
Y = Formula.letter("y", full=True)
CLOCK = Formula.clock()
NEVER = Formula.constant(0).head(1).rest(1)

# A formula, and the pair with which it starts.
STARTS = [
    (X, (0, 0)),
    (Y, (0, 0)),
    (CLOCK, (0, 0)),
    (X >> 3, (3, 0)),
    ((X >> 8) >> 5, (13, 0)),
    (X << 3, (0, 3)),
    ((X << 8) >> 8, (8, 0)),
    ((X << 3) >> 1, (1, 2)),
    ((X >> 3) << 3, (0, 3)),
    ((X >> 3) << 5, (0, 5)),
    ((X >> 5) << 3, (2, 3)),
    ((X << 2) - (X >> 1), (1, 2)),
    (X.moving(7, 7), (6, 0)),
    (X.moving(7, 3), (2, 0)),
    (X.average(5, 5) >> 2, (6, 0)),
    ((X << 4).moving(3, 3), (2, 4)),
    ((X << 4).moving(3, 2), (2, 3)),
    ((X << 4).moving(7, 1), (4, 0)),
    ((X << 4).moving(7, 3), (6, 0)),
    ((X << 6).moving(5), (4, 2)),
    (X.filled() >> 1, (1, 0)),
    ((X << 3).filled(), (3, 0)),
    ((X << 3).age(), (3, 0)),
    ((X << 3).gaps(), (0, 0)),
    ((X << 3) | X, (0, 0)),
    ((X << 3) | (X << 1), (0, 1)),
    ((X << 3) | (X >> 4), (4, 0)),
    ((X >> 4) | (X >> 2), (2, 0)),
    (X.head(3), None),
    (X.rest(3), (3, 0)),
    (X.rest(8) << 2, (6, 2)),
    (X.season(2, 0), None),
    (X.season(2, 0).filled(), (0, 0)),
    (X.season(7, 4).filled(), (4, 0)),
    (X.season(7, 4).filled().season(3, 1), None),
    (X.season(2, 0) | X.season(2, 1), (0, 0)),
    (X.season(2, 0) | X.season(4, 1) | X.season(4, 3), (0, 0)),
    (X.season(2, 0) | X.season(4, 1), None),
    (X.season(4, 1).season(6, 0), None),
    (X.season(3, 2).moving(3), (2, 0)),
    (X.season(3, 2).moving(2), None),
    ((X.season(2, 0) << 1) | X, (0, 0)),
    ((X.season(2, 0) << 1) | X.season(2, 0), (0, 1)),
    (X.season(2, 0) | (X.season(2, 0) << 3), (0, 3)),
    (X.since(X.season(5, 3)), (3, 0)),
    (X.since(X << 3), (3, 0)),
    (X.total(3) >> 2, (2, 0)),
    (NEVER, None),
    (NEVER.filled(), None),
    (NEVER.gaps(), (0, 0)),
    (NEVER | Z, (0, 0)),
    ((X << 2) + (Z >> 3), (3, 2)),
    (((X << 2) >> 3) + (Z << 1), (3, 1)),
    (X.head(4) | (X << 2), (0, 2)),
    (X.head(4).filled(), (0, 0)),
    (X.head(3) | X.rest(5), (5, 0)),
    ((X << 1).head(3) | X.rest(2), (2, 0)),
]

# Formulas that never have a gap though they are not full, then some that have.
NEVER_GAP = [
    X.season(2, 0) | CLOCK.season(2, 1) | CLOCK.season(2, 0),
    CLOCK.season(2, 1) | CLOCK.season(2, 0),
    CLOCK.head(3) | CLOCK.rest(3),
    CLOCK.season(5, 0).filled(),
    (CLOCK >> 1) | CLOCK.head(1),
    (CLOCK << 1).filled() | (CLOCK.season(2, 0) | CLOCK.season(2, 1)),
    CLOCK.head(1).filled(),
    CLOCK.moving(3, 3) | (CLOCK.head(2)),
    X.gaps().season(4, 0).age(),
    X.since(Y.head(1)),
    (X | (CLOCK >> 2)) | CLOCK.head(2),
    ((Y >> 1) << 1) | (Y.head(4) | Y.rest(4)),
]
SOME_GAP = [
    (X, (1, {"x": "_"}, 0)),
    (Y >> 1, (1, {"y": "0"}, 0)),
    (Y << 1, (1, {"y": "0"}, 0)),
    (X.filled(), (1, {"x": "_"}, 0)),
    (X.filled() | CLOCK.head(3), (4, {"x": "_ _ _ _"}, 3)),
    (CLOCK.head(8), (9, {}, 8)),
    (X | CLOCK.head(2), (3, {"x": "0 0 _"}, 2)),
    (X | Z, (1, {"x": "_", "z": "_"}, 0)),
    (X & Z, (1, {"x": "0", "z": "_"}, 0)),
    (X + Y, (1, {"x": "_", "y": "0"}, 0)),
    ((X << 2) | CLOCK.head(1), (2, {"x": "0 0"}, 1)),
    ((Y >> 1) | Y.head(1) & (Y << 1), (1, {"y": "0"}, 0)),
    (X.moving(3) | CLOCK.head(2), (3, {"x": "_ _ _"}, 2)),
    (X.moving(3, 2) | CLOCK.head(2), (3, {"x": "0 _ _"}, 2)),
    (CLOCK.season(5, 0) | CLOCK.season(5, 1) | CLOCK.season(5, 2) | CLOCK.season(5, 4), (4, {}, 3)),
    ((X << 1) | CLOCK.head(2) | (CLOCK << 1), (3, {"x": "0 0 0"}, 2)),
    (((X << 1) >> 1) | CLOCK.head(1), (2, {"x": "0 _"}, 1)),
    ((X.gaps() << 2) >> 1, (1, {"x": "0"}, 0)),
    ((X.gaps() << 2) >> 2 | CLOCK.head(2) & X, (1, {"x": "_"}, 0)),
]

# Pairs that have their gaps at the same places, then some that have not.
ALIKE = [
    (X, 2 * X),
    (X.total(), X.smooth(3)),
    (X.filled(), X.age()),
    (X + Z, X & Z),
    (X - X, X),
    (X.moving(3, 2), X.average(3, 2)),
    (Y, CLOCK),
    (X.since(Z), Z.filled()),
    (X.gaps(), 1 - Y),
    ((X << 1) >> 1, X.rest(1)),
    ((X >> 2) >> 3, (3 * X) >> 5),
    (X.season(2, 0) | X.season(2, 1), X),
    (X << 3, (X << 3).total()),
    ((X << 3) + Y, X << 3),
    (X | Z, Z | X),
    (X.tally(3), X.gaps()),
    (NEVER, NEVER & X),
]
UNLIKE = [
    (X, Z),
    (X, X.filled()),
    (X, X >> 1),
    (X << 1, X << 2),
    ((X >> 1) << 1, X),
    (X.moving(3, 2), X.moving(3, 1)),
    (Y.moving(7, 7), Y.moving(7, 6)),
    (Y.head(8), Y.head(7)),
    (X | Z, X),
    (X.season(11, 10).season(7, 6), NEVER),
    (Y.season(11, 10).season(7, 6).season(9, 8), NEVER),
    (X.filled(), X.filled().filled() >> 1),
    (X.since(Z), Z.since(X)),
    (X.season(7, 6) | X, X.season(7, 6) | X.season(7, 5)),
]


def row(found):
    return None if found is None else (found[0], {name: str(series) for name, series in found[1].items()}, found[2])


def searched_alike(one, two, most):
    """Whether data of lengths up to `most` tell no difference in gaps."""
    letters = letters_of(one, two)
    for length in range(most + 1):
        for pattern in patterns(letters, length):
            data = data_with(letters, pattern)
            if value(one, data, length).missing != value(two, data, length).missing:
                return False
    return True


class StartsTest(Kit):
    def test_starts(self):
        for formula, pair in STARTS:
            with self.subTest(formula=str(formula)):
                self.assertEqual(starts(formula), pair)
                self.assertEqual(searched_starts(formula, 60), pair)

    def test_by_name_and_kinds(self):
        self.assertEqual(starts(formula=X >> 1), (1, 0))
        found = starts((X << 2) - (X >> 1))
        self.assertEqual([type(found), type(found[0]), type(found[1])], [tuple, int, int])

    def test_random_formulas(self):
        source = random.Random(41)
        for turn in range(500):
            letters = source.choice([[X], [Y], [X, Z], [X, Y]])
            formula = random_formula(source, letters, source.randint(1, 5))
            with self.subTest(formula=str(formula)):
                if too_heavy(formula):
                    self.refused(TooHeavy, too_heavy(formula), starts, formula)
                else:
                    self.assertEqual(starts(formula), searched_starts(formula, 60))

    def test_long_periods(self):
        five = Y.season(11, 10).season(7, 6).season(9, 8).season(5, 4)
        self.assertEqual(starts(five.filled()), (3464, 0))
        self.assertIsNone(starts(five))
        self.assertEqual(starts((five << 8).filled()), (3464, 0))


class GapTest(Kit):
    def test_never(self):
        for formula in [*NEVER_GAP, Y, CLOCK, X.gaps(), X | Y, Formula.constant(1), X.tally(3), Y.total() + 1]:
            with self.subTest(formula=str(formula)):
                self.assertIs(never_gaps(formula), True)
                self.assertIsNone(gap(formula))
                self.assertIsNone(searched_gap(formula, 4))
        self.assertEqual([str(formula) for formula in NEVER_GAP if formula.full], [])

    def test_some(self):
        for formula, expected in SOME_GAP:
            with self.subTest(formula=str(formula)):
                self.assertIs(never_gaps(formula), False)
                found = gap(formula)
                self.assertEqual(row(found), expected)
                self.assertEqual([type(found), type(found[0]), type(found[1]), type(found[2])], [tuple, int, dict, int])
                self.assertEqual({type(series) for series in found[1].values()} | {Series}, {Series})
                if expected[0] < 5:
                    self.assertEqual(row(searched_gap(formula, 5)), expected)

    def test_random_formulas(self):
        source = random.Random(42)
        late = 0
        for turn in range(600):
            letters, most = source.choice([([X], 6), ([Y], 10), ([X, Y], 5), ([X, Z], 3)])
            formula = random_formula(source, letters, source.randint(1, 4))
            if turn % 2:
                formula = formula | random_formula(source, letters, 2)
            if turn % 3 == 0 and formula.levels < 20:
                formula = formula | CLOCK.head(source.randint(1, 2))
            with self.subTest(formula=str(formula)):
                if too_heavy(formula):
                    self.refused(TooHeavy, too_heavy(formula), gap, formula)
                    continue
                found = gap(formula)
                self.assertIs(never_gaps(formula), found is None)
                if found is not None and found[0] > most:
                    late += 1
                    self.assertIsNone(searched_gap(formula, most))
                    self.assertIn(found[2], value(formula, found[1], found[0]).missing)
                else:
                    self.assertEqual(row(found), row(searched_gap(formula, most)))
        self.assertLess(late, 60)

    def test_late_gaps(self):
        late = CLOCK.season(11, 10).season(7, 6).season(9, 8).gaps()
        for formula, length in [
            (CLOCK.season(11, 0).filled(), None),
            ((X.season(12, 11).filled() | CLOCK.head(8)).filled(), None),
            (CLOCK.season(11, 10).season(7, 6).gaps().season(2, 0).filled(), None),
            (X.season(12, 11).filled() | CLOCK.head(8) | CLOCK.season(12, 8) | CLOCK.season(12, 9), 11),
            (CLOCK.season(11, 10).season(7, 6).season(9, 8).filled() | CLOCK.head(2) | CLOCK.rest(3), 3),
            (late.season(9, 8).season(7, 6), 1),
            (X.moving(7) | CLOCK.head(6), 7),
            (X.moving(7, 7) | CLOCK.head(8), 9),
            ((Y >> 8) | CLOCK.head(5), 6),
        ]:
            with self.subTest(formula=str(formula)):
                found = gap(formula)
                self.assertEqual(None if found is None else found[0], length)

    def test_by_name(self):
        self.assertEqual(gap(formula=X), gap(X))
        self.assertIs(never_gaps(formula=X), False)


class AlikeTest(Kit):
    def test_alike(self):
        for one, two in ALIKE:
            with self.subTest(one=str(one), two=str(two)):
                self.assertIs(alike_places(one, two), True)
                self.assertIs(alike_places(two, one), True)
                self.assertIs(searched_alike(one, two, 4), True)

    def test_unlike(self):
        for one, two in UNLIKE:
            with self.subTest(one=str(one), two=str(two)):
                self.assertIs(alike_places(one, two), False)
                self.assertIs(alike_places(two, one), False)

    def test_random_formulas(self):
        source = random.Random(43)
        late = 0
        for turn in range(500):
            letters, most = source.choice([([X], 6), ([Y], 12), ([X, Y], 5), ([X, Z], 3)])
            one = random_formula(source, letters, source.randint(1, 4))
            two = source.choice([lambda: random_formula(source, letters, 3), lambda: one + 1, lambda: one | one, lambda: one & X,
                                 lambda: one.total(), lambda: one | (one >> 1), lambda: one.filled(), lambda: -one])()
            with self.subTest(one=str(one), two=str(two)):
                if too_heavy(one, two):
                    self.refused(TooHeavy, too_heavy(one, two), alike_places, one, two)
                    continue
                found = alike_places(one, two)
                searched = searched_alike(one, two, most)
                if searched and not found:
                    late += 1
                else:
                    self.assertIs(found, searched)
        self.assertLess(late, 15)

    def test_by_name(self):
        self.assertIs(alike_places(other=X, formula=2 * X), True)


class ErrorsTest(Kit):
    def test_no_formulas(self):
        for given in NO_FORMULAS:
            with self.subTest(given=repr(given)):
                for action in (starts, never_gaps, gap):
                    self.refused(NotAFormula, given, action, given)
                    self.refused(NotAFormula, given, action, formula=given)
                self.refused(NotAFormula, given, alike_places, given, X)
                self.refused(NotAFormula, given, alike_places, given, None)
                self.refused(NotAFormula, given, alike_places, X, given)
                self.refused(NotAFormula, given, alike_places, other=given, formula=X)

    def test_clash(self):
        full = Formula.letter("x", True)
        self.refused(Clash, "x", alike_places, X, full)
        self.refused(Clash, "x", alike_places, full + Y, Y - X)
        self.refused(Clash, "x", alike_places, X.moving(7).moving(7).moving(7), full)
        one = Formula.letter("b", True) + Formula.letter("c")
        self.refused(Clash, "b", alike_places, one, Formula.letter("c", True) + Formula.letter("b"))

    def test_too_heavy(self):
        heavy = X.moving(7).moving(7).moving(7)
        wide = CLOCK
        for _ in range(15):
            wide = wide.total()
        broad = (wide + wide) + wide
        wide = broad.total(2) + CLOCK.total(3).total(4).total(5).total(6).total(7).total(8).total(9)
        for action in (starts, never_gaps, gap):
            self.refused(TooHeavy, 65536, action, heavy)
            self.refused(TooHeavy, 65536, action, heavy & CLOCK)
            self.refused(TooHeavy, 65536, action, wide)
            action(broad)
        self.refused(TooHeavy, 64, alike_places, broad, broad)
        self.refused(TooHeavy, 65536, alike_places, broad & heavy, broad)
        self.refused(TooHeavy, 65536, alike_places, X, heavy)
        self.refused(TooHeavy, 65536, alike_places, heavy, X)

    def test_full_formulas_can_be_too_heavy(self):
        self.refused(TooHeavy, 65536, gap, X.moving(7).moving(7).moving(7).gaps())
        self.refused(TooHeavy, 65536, never_gaps, X.moving(7).moving(7).moving(7).gaps())

    def test_exactly_at_the_limits(self):
        total = CLOCK
        for _ in range(15):
            total = total.total()
        wide = (total + total) + total
        letters = [Formula.letter(f"a{index}") for index in range(16)]
        many = letters[0]
        for one, two in zip(letters[1:8], letters[9:]):
            many = (many + one) | two
        many = many + letters[8]
        for formula, load, width in [
            (((X >> 7) & (Z >> 7)), 65536, 14),
            ((X >> 6) | (Z >> 6) | CLOCK.season(4, 0), 65536, 13),
            (X.moving(7).moving(7).moving(4), 65536, 15),
            ((X << 7).moving(7).moving(7), 65536, 12),
            (Y.season(8, 0).season(8, 1).season(8, 2).season(8, 3).season(8, 4).filled(), 65536, 1),
            (many, 65536, 0),
            (wide, 1, 48),
        ]:
            with self.subTest(formula=str(formula)[:40]):
                self.assertEqual(heaviness(formula), (load, width))
                self.assertEqual(starts(formula), searched_starts(formula, 60))
                self.assertIs(never_gaps(formula), gap(formula) is None)
        self.refused(TooHeavy, 65536, gap, many & Formula.letter("b"))
        self.refused(TooHeavy, 65536, gap, (X >> 7) & (Z >> 7).season(2, 0))
        self.refused(TooHeavy, 65536, starts, ((X << 7).moving(7).moving(7)) << 1)
        self.assertEqual(heaviness(wide, total), (1, 64))
        self.assertIs(alike_places(wide, total), True)
        self.refused(TooHeavy, 64, alike_places, wide, total + CLOCK)


class ResultsTest(Kit):
    def test_data_are_new_each_time(self):
        found = gap(X | CLOCK.head(2))
        found[1]["x"] = None
        self.assertEqual(row(gap(X | CLOCK.head(2))), (3, {"x": "0 0 _"}, 2))

    def test_the_same_call_twice(self):
        formula = (X << 2).moving(3, 2) | Z.filled()
        self.assertEqual(gap(formula), gap(formula))
        self.assertEqual(starts(formula), starts(formula))
        self.assertEqual(str(formula), "(moving((x << 2), 3, 2) | filled(z))")


class InterfaceTest(unittest.TestCase):
    def test_defined_here(self):
        for thing in (starts, never_gaps, gap, alike_places):
            self.assertEqual(thing.__module__, places.__name__)

    def test_example_of_the_document(self):
        x, y = Formula.letter("x"), Formula.letter("y", full=True)
        found = [
            starts(x.moving(7, 7)),
            starts((x << 2) - (x >> 1)),
            starts(x.season(2, 0)),
            never_gaps(x.filled() | 0 * y),
            alike_places(x.total(), x.smooth(3)),
        ]
        self.assertEqual(found, [(6, 0), (1, 2), None, True, True])
        length, data, place = gap(x.filled())
        self.assertEqual([length, str(data["x"]), place, gap(y.filled())], [1, "_", 0, None])


if __name__ == "__main__":
    unittest.main()
