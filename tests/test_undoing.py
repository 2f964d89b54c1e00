"""Tests of seriesforms.undoing, against the values of formulas."""

import random
import unittest

from kit import FORTY, NO_FORMULAS, NO_NUMBERS, STRANGE, Kit, heaviness, random_formula, too_heavy

from seriesforms import undoing as module
from seriesforms.errors import InvalidNumber, NotAFormula, NotASeries, NotUndoable, NoWay, TooHeavy
from seriesforms.formulas import Formula
from seriesforms.ratios import Ratio
from seriesforms.reading import read
from seriesforms.series import Series
from seriesforms.steps import put
from seriesforms.undoing import Undoer, undone
from seriesforms.values import value

X = Formula.letter("x")
Y = Formula.letter("y", full=True)
V = Formula.letter("v", full=True)
CLOCK = Formula.clock()
HALF = Ratio(1, 2)
NO_SERIES = [*STRANGE, 0, "1 2", Ratio(1), X, {}, (1, 2)]

UNDOABLE = [
    Y, 2 * Y, Y + 1, 3 - Y, Y + Y, -Y, Y - CLOCK, Y.total(), Y.total(2), Y.total(12), Y.total().total(), Y.moving(2),
    Y.moving(7), Y.average(2), Y.average(5), Y.smooth(2), Y.smooth(-1), Y.smooth(HALF), Y.smooth(HALF).smooth(Ratio(1, 3)),
    Y.filled(), Y.since(Y), Y.since(CLOCK.season(3, 0)), Y.total().moving(3), Y.moving(3).total(5), Y.smooth(3).average(4),
    Y.head(2) | 2 * Y, Y.season(2, 1) | -Y, Y.rest(3) | Y.total(), (Y >> 1 | 0 * Y) + Y, 2 * Y - ((Y >> 1) | 0 * Y),
    Y + ((Y >> 8) | CLOCK), Y & CLOCK, Y | (Y >> 1), (Y >> 1).gaps() + Y, Y + Y.tally(3),
    Y + Y.age(), Y.total() - ((Y.total() >> 3) | 0 * Y), ((Y << 2) >> 2) | Y, ((Y << 3) >> 3) | (Y + CLOCK),
    (Y.season(4, 1).filled() | 0 * Y) + 5 * Y, Ratio(1, FORTY) * Y, Y.average(3) + Y.head(2).filled(), Y.season(3, 2) | 7 * Y,
]

# A formula, and the reason and the place with which it is refused; a number stands for TooHeavy.
REFUSED = [
    (CLOCK, "letters", None),
    (Formula.constant(3), "letters", None),
    (X, "letters", None),
    (X.gaps(), "letters", None),
    (Y + V, "letters", None),
    (Y + X, "letters", None),
    (0 * (Y + V), "letters", None),
    (X << 1, "letters", None),
    ((Y + V) << 1, "letters", None),
    (X >> 1, "letters", None),
    (Y << 1, "lead", None),
    (Y << 8, "lead", None),
    ((Y << 2) >> 1, "lead", None),
    ((Y << 1) | Y, "lead", None),
    ((Y << 1).gaps() + Y, "lead", None),
    (0 * (Y << 1), "lead", None),
    ((Y << 1) >> 1, "gap", 0),
    ((Y << 3) >> 3, "gap", 0),
    (Y >> 1, "gap", 0),
    (Y.head(1), "gap", 1),
    (Y.head(8), "gap", 8),
    (Y.rest(1), "gap", 0),
    (Y.season(3, 0), "gap", 1),
    (Y.season(3, 1), "gap", 0),
    (Y.moving(3, 3), "gap", 0),
    (Y.average(7, 2), "gap", 0),
    (Y.season(3, 0) | Y.season(3, 1), "gap", 2),
    (Y.season(2, 0) | Y.season(3, 0) | Y.season(7, 1) | Y.head(7), "gap", 7),
    (0 * Y.head(3), "gap", 3),
    ((0 * Y).head(3), "gap", 3),
    (Y.total() - (Y.total() >> 3), "gap", 0),
    (0 * Y, "still", 0),
    (CLOCK + 0 * Y, "still", 0),
    (Y - Y, "still", 0),
    (Y.gaps(), "still", 0),
    (Y.age(), "still", 0),
    (Y.tally(2), "still", 0),
    (Y.smooth(0), "still", 1),
    ((Y >> 1) | Y, "still", 1),
    ((Y >> 3) | Y, "still", 3),
    (Y.season(3, 0).filled(), "still", 1),
    (Y.head(4) | CLOCK, "still", 4),
    (CLOCK.head(2) | Y, "still", 0),
    (CLOCK.season(5, 4) | Y, "still", 4),
    (CLOCK.season(12, 11).season(11, 10) | Y, "still", 131),
    (Y.season(7, 6) | Y, None, None),
    (Y.total() - (Y.total() | Y), "still", 0),
    (Y.average(2) - HALF * Y, "still", 1),
    (Y.average(3) - Ratio(1, 3) * Y, "still", 2),
    (Y.smooth(HALF) - HALF * Y, "still", 1),
    (Y.moving(3).season(6, 5).filled() | Y, "still", 6),
    (Y.since(CLOCK.season(12, 0)).head(5) | (Y >> 2), "still", 5),
]


class UndoableTest(Kit):
    def check(self, formula, source):
        """That both ways fit together."""
        name = formula.letters[0].name
        length = source.randint(0, 20)
        row = Series(tuple(source.choice([0, 1, -1, 2, HALF, 40, Ratio(-7, 3)]) for _ in range(length)))
        made = value(formula, {name: row}, length)
        self.assertEqual(undone(formula, made), row)
        found = undone(formula=formula, series=row)
        self.assertIs(type(found), Series)
        self.assertEqual(value(formula, {name: found}, length), row)
        undoer = Undoer(formula)
        self.assertEqual(undoer.fed, 0)
        for place, entry in enumerate(row.entries):
            fed = undoer.feed(entry) if place % 2 else undoer.feed(entry=entry)
            self.assertIs(type(fed), Ratio)
            self.assertEqual(fed, found.entries[place])
            self.assertEqual(undoer.fed, place + 1)

    def test_ways_back(self):
        source = random.Random(111)
        for formula in UNDOABLE:
            for _ in range(4):
                with self.subTest(formula=str(formula)):
                    self.check(formula, source)

    def test_put_into_one_another(self):
        source = random.Random(112)
        for _ in range(60):
            inner, outer = source.choice(UNDOABLE), source.choice(UNDOABLE)
            text = str(outer).replace("y", str(inner)) if "tally" not in str(outer) else str(inner)
            try:
                formula = read(text, (Y,))
            except ArithmeticError:
                continue
            if not too_heavy(formula):
                with self.subTest(formula=text):
                    self.check(formula, source)

    def test_by_hand(self):
        for formula, given, back in [
            (Y.total(), "1 3 6", "1 2 3"),
            (Y.total(2), "1 3 6 7", "1 2 6 1"),
            (Y.smooth(2), "1 1 1", "1 1 1"),
            (Y.smooth(2), "0 2 2", "0 1 2"),
            (Y.average(2), "1 1 1", "1 1 1"),
            (Y.average(2), "0 1 0", "0 2 -2"),
            (Y.moving(3), "1 1 1 1 1", "1 0 0 1 0"),
            (Y - CLOCK, "0 0 0", "0 1 2"),
            (3 * Y, "1 2", "1/3 2/3"),
            (Y.season(2, 1) | -Y, "1 1 1", "-1 1 -1"),
            (Y, "", ""),
            (Y.total(), "", ""),
        ]:
            with self.subTest(formula=str(formula)):
                self.assertEqual(str(undone(formula, Series.read(given))), back)

    def test_two_undoers(self):
        one, two = Undoer(Y.total()), Undoer(formula=Y.total())
        self.assertEqual([one.feed(1), one.feed(3), two.feed(5), one.feed(6), two.feed(5)], [1, 2, 5, 3, 0])
        self.assertEqual((one.fed, two.fed), (3, 2))

    def test_long_rows(self):
        row = Series(tuple(range(1000)))
        self.assertEqual(undone(Y.total(), row), Series((0,) + (1,) * 999))
        self.assertEqual(value(Y.total(7), {"y": undone(Y.total(7), row)}, 1000), row)

    def test_great_numbers(self):
        self.assertEqual(undone(FORTY * Y, Series((Ratio(1, FORTY), FORTY))), Series((Ratio(1, FORTY * FORTY), 1)))
        self.assertEqual(Undoer(Y + FORTY).feed(-FORTY), -2 * FORTY)


def totals(many):
    formula = Y
    for _ in range(many):
        formula = formula.total()
    return formula


def wide(last):
    """A formula of the width 64 if its last window has 6 places."""
    return totals(17).moving(7) + (totals(15).moving(7).moving(7) + totals(4).moving(6).moving(last))


class RefusedTest(Kit):
    def raised(self, reason, place, action, *arguments, **named):
        with self.assertRaises(NotUndoable) as context:
            action(*arguments, **named)
        self.assertIs(type(context.exception), NotUndoable)
        self.assertEqual(vars(context.exception), {"reason": reason, "place": place})

    def test_reasons(self):
        for formula, reason, place in REFUSED:
            with self.subTest(formula=str(formula)):
                if reason is None:
                    self.assertEqual(Undoer(formula).fed, 0)
                else:
                    self.raised(reason, place, Undoer, formula)
                    self.raised(reason, place, Undoer, formula=formula)
                    self.raised(reason, place, undone, formula, Series((1, None)))

    def expected(self, formula):
        """Why the formula has no way back, by its values for small data; or None."""
        if [letter.full for letter in formula.letters] != [True]:
            return "letters", None
        if formula.lead:
            return "lead", None
        if too_heavy(formula):
            return too_heavy(formula)
        name, many = formula.letters[0].name, 30
        plain = value(formula, {name: Series((0,) * many)}, many).entries
        if None in plain:
            return "gap", plain.index(None)
        for place in range(many):
            row = Series((0,) * place + (1,))
            if value(formula, {name: row}, place + 1).entries[place] == plain[place]:
                return "still", place
        return None

    def test_random_formulas(self):
        source = random.Random(113)
        met = {}
        for _ in range(1500):
            formula = random_formula(source, source.choice([[Y], [Y], [Y], [X, Y]]), source.randint(1, 4))
            if source.random() < 0.3:
                formula = source.choice([formula + Y, Y - formula, formula | Y, formula.total(), formula.average(3)])
            wanted = self.expected(formula)
            key = wanted[0] if isinstance(wanted, tuple) else wanted
            met[key] = met.get(key, 0) + 1
            with self.subTest(formula=str(formula)):
                if isinstance(wanted, tuple):
                    self.raised(*wanted, Undoer, formula)
                elif wanted is not None:
                    self.refused(TooHeavy, wanted, Undoer, formula)
                else:
                    UndoableTest.check(self, formula, source)
        self.assertGreater(min(met[key] for key in ("letters", "lead", "gap", "still", None)), 30)

    def test_order_of_reasons(self):
        heavy = Y.total(12).total(11).total(10).total(9).total(8)
        self.assertEqual(heaviness(heavy)[0], 95040)
        self.raised("letters", None, Undoer, heavy + V)
        self.raised("letters", None, Undoer, heavy & X)
        self.raised("letters", None, Undoer, put(wide(7), {"y": CLOCK}))
        self.raised("lead", None, Undoer, heavy << 1)
        self.refused(TooHeavy, 65536, Undoer, heavy)
        self.refused(TooHeavy, 65536, Undoer, heavy >> 1)
        self.refused(TooHeavy, 65536, Undoer, 0 * heavy)
        self.refused(TooHeavy, 65536, undone, heavy, Series((None,)))
        self.raised("gap", 2, Undoer, (0 * Y).head(2))

    def test_exactly_at_the_limits(self):
        self.assertEqual(heaviness(wide(6)), (12348, 64))
        self.assertEqual(Undoer(wide(6)).feed(9), 3)
        self.refused(TooHeavy, 64, Undoer, wide(7))
        light = Y
        for _ in range(8):
            light = (light | CLOCK.season(2, 0)) | CLOCK.season(2, 0)
        self.assertEqual(heaviness(light)[0], 65536)
        self.assertEqual(Undoer(light).feed(4), 4)
        self.refused(TooHeavy, 65536, Undoer, light | CLOCK.season(2, 0))

    def test_no_formula(self):
        for given in NO_FORMULAS:
            with self.subTest(given=repr(given)):
                self.refused(NotAFormula, given, Undoer, given)
                self.refused(NotAFormula, given, Undoer, formula=given)
                self.refused(NotAFormula, given, undone, given, Series(()))
                self.refused(NotAFormula, given, undone, given, None)

    def test_no_series(self):
        for given in NO_SERIES:
            with self.subTest(given=repr(given)):
                self.refused(NotASeries, given, undone, Y, given)
                self.refused(NotASeries, given, undone, series=given, formula=X)
                self.refused(NotASeries, given, undone, Y.moving(7).gaps() << 1, given)

    def test_no_number(self):
        undoer = Undoer(Y.total())
        undoer.feed(2)
        for given in NO_NUMBERS:
            with self.subTest(given=repr(given)):
                self.refused(InvalidNumber, given, undoer.feed, given)
                self.refused(InvalidNumber, given, undoer.feed, entry=given)
        self.assertEqual(undoer.fed, 1)
        self.assertEqual(undoer.feed(5), 3)

    def test_no_way(self):
        self.refused(NoWay, 0, undone, Y, Series((None,)))
        self.refused(NoWay, 2, undone, Y.total(), Series((1, 2, None, 3, None)))
        self.refused(NoWay, 3, undone, Y.total(), Series.read("1 1 1 _"))
        self.raised("still", 0, undone, 0 * Y, Series((None,)))
        self.raised("gap", 0, undone, Y >> 1, Series((None,)))


class InterfaceTest(Kit):
    def test_defined_here(self):
        for thing in (Undoer, undone):
            self.assertEqual(thing.__module__, module.__name__)
        for name in ("__init__", "feed", "fed"):
            self.assertIn(name, vars(Undoer))

    def test_equality_and_truth(self):
        undoer = Undoer(Y)
        self.assertIs(bool(undoer), True)
        self.assertIs(undoer == undoer, True)
        for other in (Undoer(Y), Y, 0, None):
            self.assertIs(undoer == other, False)
            self.assertIs(undoer != other, True)
        with self.assertRaises(AttributeError):
            undoer.fed = 5

    def test_formulas_and_series_stay(self):
        formula, row = Y.total().smooth(2), Series((1, 2, 3))
        one = undone(formula, row)
        self.assertEqual(one, undone(formula, row))
        self.assertEqual((str(formula), str(row)), ("smooth(total(y), 2)", "1 2 3"))

    def test_example_of_the_document(self):
        y = Formula.letter("y", full=True)
        found = [
            str(undone(y.total(), Series.read("1 3 6"))),
            str(undone(2 * y - (y >> 1 | 0 * y), Series.read("2 3 0"))),
            str(undone(y.smooth(-1), Series((1, 1)))),
        ]
        self.assertEqual(found, ["1 2 3", "1 2 1", "1 1"])


if __name__ == "__main__":
    unittest.main()
