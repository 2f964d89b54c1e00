"""Tests of seriesforms.looks, checked against a search through all data of small lengths."""

import random
import unittest
from unittest import mock

from kit import NO_FORMULAS, NO_INTEGERS, Kit, cut, entries_of, heaviness, letters_of, random_formula, searched_back
from kit import plain_value, searched_leak, too_heavy

from seriesforms import looks
from seriesforms.changes import Changes
from seriesforms.errors import InvalidCount, NotAFormula, TooHeavy
from seriesforms.formulas import Formula
from seriesforms.looks import Leak, Trace, ahead, back, leak, trace
from seriesforms.ratios import Ratio
from seriesforms.reading import read
from seriesforms.series import Series

X = Formula.letter("x")
Z = Formula.letter("z")
Y = Formula.letter("y", full=True)
CLOCK = Formula.clock()
NEVER = Formula.constant(0).head(1).rest(1)

# A formula; by how much it looks ahead, and back (None: without end).
TABLE = [
    (X, 0, 0),
    (Y, 0, 0),
    (CLOCK, 0, 0),
    (Formula.constant(5), 0, 0),
    (2 * X, 0, 0),
    (0 * X, 0, 0),
    (X + Z, 0, 0),
    (X >> 1, 0, 1),
    (X >> 7, 0, 7),
    (Y >> 8, 0, 8),
    (0 * (X >> 3), 0, 3),
    (0 * (Y >> 3), 0, 0),
    (X << 1, 1, 0),
    (X << 8, 8, 0),
    (0 * (X << 3), 3, 0),
    (0 * (Y << 3), 3, 0),
    ((X << 1).gaps(), 1, 0),
    ((Y << 1).gaps(), 1, 0),
    ((X << 3) >> 3, 0, 0),
    ((X << 3) >> 2, 1, 0),
    ((X << 3) >> 5, 0, 2),
    ((X >> 3) << 3, 3, 0),
    ((X >> 5) << 3, 3, 2),
    ((X >> 3) << 5, 5, 0),
    ((X << 2) - (X << 2), 2, 0),
    ((X << 1) - X, 1, 0),
    ((X << 1) | X, 1, 0),
    (X | (X << 1), 1, 0),
    (Y | (X << 1), 0, 0),
    ((Y << 1) | Y, 1, 0),
    (0 * Y | (Y << 5), 0, 0),
    (((Y << 1) & Y) | Y, 1, 0),
    ((Y & (Y << 1)) | Y, 0, 0),
    ((X << 4).head(3), 4, 0),
    ((X << 4) & NEVER, 0, 0),
    ((X << 4).season(2, 0).season(2, 1), 0, 0),
    ((X << 2).total() - (X << 2).total(), 2, 0),
    (X.total(), 0, None),
    (Y.total(), 0, None),
    (X.total() - X.total(), 0, 0),
    (Y.total() - (Y.total() >> 3), 0, 2),
    (X.total() - (X.total() >> 3), 0, 3),
    (X.total(2), 0, 1),
    (Y.total(12), 0, 11),
    (Y.total(4).total(6), 0, 7),
    (Y.total(12).total(11), 0, 21),
    (X.moving(7), 0, 6),
    (X.moving(7, 7), 0, 6),
    (Y.moving(2), 0, 1),
    (X.moving(3).moving(3), 0, 4),
    (X.average(4, 2), 0, 3),
    (X.smooth(2), 0, None),
    (X.smooth(1), 0, 0),
    (X.smooth(0), 0, None),
    (Y.smooth(2), 0, None),
    (X.filled(), 0, None),
    (Y.filled(), 0, 0),
    (X.filled() | Y, 0, None),
    (Y | X.filled(), 0, 0),
    (Y.season(5, 0).filled(), 0, 4),
    (X.season(5, 0).filled(), 0, None),
    (X.since(Z), 0, None),
    (X.since(Y), 0, 0),
    (Y.since(X), 0, None),
    (X.since(Y.season(4, 0)), 0, 3),
    (X.season(3, 1), 0, 0),
    (X.total().head(4), 0, 3),
    (Y.total().head(8).filled(), 0, None),
    (X.total().head(1), 0, 0),
    (X.rest(3), 0, 0),
    (X.gaps(), 0, 0),
    (X.tally(3), 0, 2),
    (X.tally(3) >> 2, 0, 4),
    (Y.tally(3), 0, 0),
    (X.age(), 0, None),
    (Y.age(), 0, 0),
    (Y.season(4, 1).age(), 0, 0),
    ((X << 2).moving(3), 2, 0),
    ((X << 2).moving(5), 2, 2),
    ((X << 1).filled(), 1, None),
    ((X << 3).total(2), 3, 0),
    ((Y << 1).total(4), 1, 2),
    ((X << 1).since(Z << 3), 3, None),
    (X.total() & (Z << 2), 2, None),
]


def row(found):
    return None if found is None else (found.length, found.data, found.place, found.whole, found.short)


class LooksKit(Kit):
    def check_ahead(self, formula, most):
        """That `ahead` and the leaks are those that the search finds, and as good beyond it."""
        many = ahead(formula)
        self.assertLessEqual(many, formula.lead)
        self.assertIs(type(many), int)
        for count in range(formula.lead + 2):
            found = leak(formula, count)
            self.assertIs(found is None, count >= many)
            searched = searched_leak(formula, count, most)
            if found is None or found.length <= most:
                self.assertEqual(row(found), searched)
            else:
                self.assertIsNone(searched)
                stop = found.place + count + 1
                self.assertEqual(entries_of(formula, found.data, found.length)[found.place], found.whole)
                self.assertEqual(entries_of(formula, cut(found.data, stop), stop)[found.place], found.short)
                self.assertNotEqual(found.whole, found.short)

    def check_trace(self, formula, count):
        """That a trace for this number shows that the formula looks back further."""
        found = trace(formula, count)
        self.assertEqual(set(found.one), {letter.name for letter in formula.letters})
        self.assertEqual(set(found.two), set(found.one))
        self.assertIn(found.place, range(found.length))
        first = max(0, found.place - count)
        for name in found.one:
            self.assertEqual([len(found.one[name]), len(found.two[name])], [found.length] * 2)
            self.assertEqual(found.one[name].entries[first:], found.two[name].entries[first:])
        self.assertEqual(entries_of(formula, found.one, found.length)[found.place], found.left)
        self.assertEqual(entries_of(formula, found.two, found.length)[found.place], found.right)
        self.assertNotEqual(found.left, found.right)

    def check_back(self, formula, most):
        """That the search finds nothing that looks further back, and that traces show what it may not find."""
        many = back(formula)
        if many is None:
            for count in (0, 1, 2, 7, 30, 60):
                self.check_trace(formula, count)
        else:
            self.assertIs(type(many), int)
            self.assertGreaterEqual(many, searched_back(formula, most))
            for count in range(min(many, 61)):
                self.check_trace(formula, count)
            for count in range(many, min(many + 3, 61)):
                self.assertIsNone(trace(formula, count))


class TableTest(LooksKit):
    def test_ahead_and_back(self):
        for formula, forward, backward in TABLE:
            with self.subTest(formula=str(formula)):
                self.assertEqual(ahead(formula), forward)
                self.assertEqual(back(formula), backward)

    def test_leaks(self):
        for formula, forward, _ in TABLE:
            most = 4 if len(letters_of(formula)) > 1 else 6
            with self.subTest(formula=str(formula)):
                self.check_ahead(formula, most)
                self.assertIsNone(leak(formula, forward))
                self.assertIsNone(leak(formula, 10**39))

    def test_traces(self):
        for formula, _, backward in TABLE:
            most = 4 if len(letters_of(formula)) > 1 else 6
            with self.subTest(formula=str(formula)):
                self.check_back(formula, most)

    def test_the_search_agrees(self):
        for formula, forward, backward in TABLE:
            if len(letters_of(formula)) == 1 and backward is not None and backward < 4 and formula.lead < 2:
                with self.subTest(formula=str(formula)):
                    self.assertEqual(searched_back(formula, 7), backward)

    def test_by_name(self):
        self.assertEqual(ahead(formula=X << 2), 2)
        self.assertEqual(back(formula=X >> 2), 2)
        self.assertEqual(leak(count=1, formula=X << 2), leak(X << 2, 1))
        self.assertEqual(trace(count=1, formula=X >> 2), trace(X >> 2, 1))


class RandomTest(LooksKit):
    def test_random_formulas(self):
        source = random.Random(31)
        for turn in range(170):
            letters, most = source.choice([([X], 6), ([Y], 8), ([X, Y], 5), ([X, Z], 3)])
            formula = random_formula(source, letters, source.randint(1, 4))
            limit = too_heavy(formula, formula)
            with self.subTest(formula=str(formula)):
                if limit is not None:
                    for action in (ahead, back):
                        self.refused(TooHeavy, limit, action, formula)
                else:
                    self.check_ahead(formula, most)
                    self.check_back(formula, most)

    def test_formulas_that_look_ahead(self):
        source = random.Random(32)
        variations = [
            lambda f: (f << 2) >> 1, lambda f: (f << 1).gaps(), lambda f: (f << 2) - ((f << 1) << 1), lambda f: 0 * (f << 1) + f,
            lambda f: (f << 1) | f, lambda f: f | (f << 1), lambda f: (f << 1).filled() >> 1, lambda f: (f << 3) & f.season(2, 0),
            lambda f: (f >> 1).moving(2) << 1, lambda f: (f << 1).since(f << 2), lambda f: (f << 2).head(2) | f,
        ]
        for turn in range(110):
            letters, most = source.choice([([X], 5), ([Y], 8), ([X, Y], 4)])
            formula = source.choice(variations)(random_formula(source, letters, 2))
            if too_heavy(formula, formula) is None:
                with self.subTest(formula=str(formula)):
                    self.check_ahead(formula, most)
                    self.check_back(formula, most)


# Formulas that go by two seasons, and how far they look back.
TWO_SEASONS = [
    ("since(y, season(season(clock, 11, 0), 10, 0))", 109),
    ("since(x, season(season(clock, 11, 0), 8, 0))", 87),
    ("since(y, season(season(1, 11, 4), 10, 3))", 109),
    ("filled(season(season(y, 11, 0), 10, 0))", 109),
    ("filled(season(season(y, 12, 5), 9, 2))", 35),
    ("since(y, season(season(clock, 7, 0), 12, 0)) - y", 83),
    ("since(y, season(clock, 7, 0)) + since(y, season(clock, 6, 0))", 6),
    ("total(total(y, 12), 11)", 21),
    ("since(y, since(season(clock, 7, 0), season(clock, 6, 0)))", 0),
    ("filled(season(season(x, 7, 0), 10, 0))", None),
    ("total(season(season(y, 7, 0), 10, 0))", None),
    ("since(x, head(season(clock, 11, 0), 5))", None),
]


class TwoSeasonsTest(LooksKit):
    def made(self, text):
        return read(text, (X, Y))

    def test_back(self):
        for text, many in TWO_SEASONS:
            with self.subTest(text=text):
                self.assertEqual(back(self.made(text)), many)

    def test_back_against_changes_of_one_entry(self):
        """The greatest distance at which a changed entry of a full letter alters something, in a long series."""
        for text, many in TWO_SEASONS:
            formula = self.made(text)
            if formula.letters == (Y,) and many is not None:
                found = 0
                plain = entries_of(formula, {"y": Series((0,) * 260)}, 260)
                for changed in range(0, 140):
                    row = Series((0,) * changed + (1,) + (0,) * (259 - changed))
                    other = entries_of(formula, {"y": row}, 260)
                    places = [place for place in range(260) if plain[place] != other[place]]
                    found = max([found, *[place - changed for place in places]])
                with self.subTest(text=text):
                    self.assertEqual(found, many)

    def test_traces(self):
        for text, many in TWO_SEASONS:
            for count in (0, 5, 21, 35, 60):
                formula = self.made(text)
                with self.subTest(text=text, count=count):
                    if many is not None and many <= count:
                        self.assertIsNone(trace(formula, count))
                        continue
                    self.check_trace(formula, count)
                    found = trace(formula, count)
                    one, two = [plain_value(formula, data, found.length) for data in (found.one, found.two)]
                    self.assertNotEqual(one[found.place], two[found.place])

    def test_the_one_of_the_issue(self):
        formula = self.made("since(y, season(season(clock, 11, 0), 10, 0))")
        self.assertEqual(back(formula), 109)
        found = trace(formula, 60)
        self.assertEqual((found.length, found.place, found.left, found.right), (62, 61, 0, 1))
        self.assertEqual(found.one, {"y": Series((0,) * 62)})
        self.assertEqual(found.two, {"y": Series((1,) + (0,) * 61)})
        told = [plain_value(formula, data, 62)[61] for data in (found.one, found.two)]
        self.assertEqual(told, [0, 1])
        # By a plain calculation a changed entry alters all places up to the next multiple of 110, and no further one.
        for changed in (0, 1, 60, 109, 110, 130):
            row = Series((0,) * changed + (1,) + (0,) * (229 - changed))
            altered = [place for place, entry in enumerate(plain_value(formula, {"y": row}, 230)) if entry != 0]
            self.assertEqual(altered, [place for place in range(changed, 230) if place // 110 == changed // 110])
            self.assertLessEqual(altered[-1] - changed, 109)

    def test_there_is_not_much_to_do(self):
        """The work grows with the number of states, of which there are 110, not with its square."""
        formula = self.made("since(y, season(season(clock, 11, 0), 10, 0))")
        for action, most in [(lambda: back(formula), 500), (lambda: trace(formula, 60), 600)]:
            with mock.patch.object(Changes, "step", autospec=True, side_effect=Changes.step) as step:
                action()
            self.assertLess(step.call_count, most)
            self.assertGreater(step.call_count, 100)


class LeakTest(LooksKit):
    def test_the_least_length_pattern_place_and_spot(self):
        pairs = [
            (X << 1, 0, (2, {"x": "0 0"}, 0, 0, None)),
            (X << 3, 0, (4, {"x": "0 0 0 0"}, 0, 0, None)),
            (X << 3, 2, (4, {"x": "0 0 0 0"}, 0, 0, None)),
            ((X << 1) | X, 0, (2, {"x": "1 0"}, 0, 0, 1)),
            (X | (X << 1), 0, (2, {"x": "_ 0"}, 0, 0, None)),
            ((X << 1).gaps(), 0, (2, {"x": "0 0"}, 0, 0, 1)),
            ((X << 2).gaps() >> 1, 0, (3, {"x": "0 0 0"}, 1, 0, 1)),
            ((X << 1).total() | 0 * Y, 0, (2, {"x": "0 1", "y": "0 0"}, 0, 1, 0)),
            (X.total() + (X << 1).gaps(), 0, (2, {"x": "0 0"}, 0, 0, 1)),
            ((Y << 1) | Y, 0, (2, {"y": "1 0"}, 0, 0, 1)),
            ((X << 1) + (Z << 2), 1, (3, {"x": "0 0 0", "z": "0 0 0"}, 0, 0, None)),
            ((X << 1).season(3, 2), 0, (4, {"x": "0 0 0 0"}, 2, 0, None)),
            ((X << 1).season(6, 4).season(5, 4), 0, (6, {"x": " ".join("0" * 6)}, 4, 0, None)),
            ((Y << 1).season(12, 10).season(11, 10), 0, (12, {"y": " ".join("0" * 12)}, 10, 0, None)),
        ]
        for formula, count, (length, texts, place, whole, short) in pairs:
            with self.subTest(formula=str(formula), count=count):
                found = leak(formula, count)
                told = {name: str(series) for name, series in found.data.items()}
                self.assertEqual((found.length, told, found.place, found.whole, found.short), (length, texts, place, whole, short))
                self.assertEqual(searched_leak(formula, count, length), row(found))

    def test_less_than_the_lead(self):
        for formula, many in [
            ((X << 3) >> 3, 0),
            ((X << 5) & (NEVER << 3), 0),
            ((X << 2) & Y.season(2, 0) & ((Y << 1).season(2, 1)), 0),
            (Y | (X << 8), 0),
            ((X << 1) - (X << 1) + ((X << 4) >> 4 & NEVER), 0),
            (0 * CLOCK | (X << 5), 0),
            ((X << 3).head(2).rest(2), 0),
            ((Y << 4).gaps().total() * 0, 0),
            ((X << 3).gaps() * 0 + (X << 1), 1),
            ((X << 6) >> 4, 2),
        ]:
            with self.subTest(formula=str(formula)):
                self.assertEqual(ahead(formula), many)
                self.check_ahead(formula, 5 if len(letters_of(formula)) == 1 else 3)


class ErrorsTest(Kit):
    ACTIONS = (ahead, back)
    COUNTED = (leak, trace)

    def test_no_formulas(self):
        for given in NO_FORMULAS:
            with self.subTest(given=repr(given)):
                for action in self.ACTIONS:
                    self.refused(NotAFormula, given, action, given)
                    self.refused(NotAFormula, given, action, formula=given)
                for action in self.COUNTED:
                    self.refused(NotAFormula, given, action, given, 0)
                    self.refused(NotAFormula, given, action, given, -1)
                    self.refused(NotAFormula, given, action, count=None, formula=given)

    def test_counts(self):
        for given in [*NO_INTEGERS, -1, -10**39, X, "0"]:
            for action in self.COUNTED:
                with self.subTest(action=action.__name__, given=repr(given)):
                    self.refused(InvalidCount, given, action, X, given)
                    self.refused(InvalidCount, given, action, X.moving(7).moving(7), given)
                    self.refused(InvalidCount, given, action, count=given, formula=CLOCK)
        for given in (61, 62, 1000, 10**39):
            self.refused(InvalidCount, given, trace, X, given)
            self.refused(InvalidCount, given, trace, X.total(), given)
            self.refused(InvalidCount, given, trace, X.moving(7).moving(7), given)
            self.assertIsNone(leak(X << 1, given))
        self.assertIsNone(trace(X, 60))
        self.assertIsNotNone(trace(X.total(), 60))
        self.assertIsNotNone(trace(X.total(), 0))

    def test_too_heavy(self):
        heavy = X.moving(7).moving(4)
        wide = CLOCK
        for _ in range(15):
            wide = wide.total()
        wide = wide + wide + CLOCK
        self.assertEqual(wide.width, 33)
        for formula, limit in [(heavy, 65536), (wide, 64), (heavy & wide, 65536), (X >> 8, 65536), ((X << 8).moving(7), 65536)]:
            with self.subTest(formula=str(formula)[:40]):
                self.assertEqual(too_heavy(formula, formula), limit)
                for action in self.ACTIONS:
                    self.refused(TooHeavy, limit, action, formula)
                for action in self.COUNTED:
                    for count in (0, 8, 60):
                        self.refused(TooHeavy, limit, action, formula, count)

    def test_exactly_at_the_limits(self):
        total = CLOCK
        for _ in range(15):
            total = total.total()
        letters = [Formula.letter(f"a{index}") for index in range(16)]
        many = letters[0]
        for one, two in zip(letters[1:8], letters[9:]):
            many = (many + one) | two
        many = many + letters[8]
        for formula, load, width, forward, backward in [
            (total + total, 1, 64, 0, 0),
            ((X >> 4).filled() & (Z >> 2), 65536, 14, 0, None),
            ((X << 7).moving(7), 65536, 12, 7, 0),
            ((X << 7).moving(4).moving(4), 65536, 12, 7, 0),
            (X.moving(7).filled() & Y, 32768, 14, 0, None),
            (many, 65536, 0, 0, 0),
        ]:
            with self.subTest(formula=str(formula)[:40]):
                self.assertEqual(heaviness(formula, formula), (load, width))
                self.assertEqual(ahead(formula), forward)
                if load < 65536 or width > 0:
                    self.assertEqual(leak(formula, 0) is None, forward == 0)
                self.assertEqual(back(formula), backward)
        self.assertIsNotNone(trace((X >> 4).filled() & (Z >> 2), 60))


class ResultsTest(LooksKit):
    def test_data_are_new_each_time(self):
        found = leak((X << 1) + Z, 0)
        kept = found.data
        changed = found.data
        changed["x"] = 5
        del changed["z"]
        self.assertEqual(found.data, kept)
        self.assertEqual(found, leak((X << 1) + Z, 0))
        traced = trace((X >> 1) + Z, 0)
        one, two = traced.one, traced.two
        traced.one.clear()
        traced.two["x"] = None
        self.assertEqual((traced.one, traced.two), (one, two))
        self.assertEqual(traced, trace((X >> 1) + Z, 0))

    def test_equality(self):
        makers = [
            lambda: leak(X << 1, 0), lambda: leak(X << 2, 0), lambda: leak(2 * X | (X << 1), 0), lambda: leak(Z << 1, 0),
            lambda: leak((X << 1).gaps(), 0), lambda: leak((X << 1) | X, 0), lambda: trace(X >> 1, 0), lambda: trace(Z >> 1, 0),
            lambda: trace(2 * Y >> 1, 0), lambda: trace(Y >> 1, 0), lambda: trace(Y >> 2, 0),
        ]
        for at, one in enumerate(makers):
            for other_at, two in enumerate(makers):
                with self.subTest(one=at, two=other_at):
                    self.assertIs(one() == two(), at == other_at)
                    self.assertIs(one() != two(), at != other_at)
        self.assertEqual(leak(X << 2, 0), leak(X << 2, 1))

    def test_each_part_counts(self):
        """Objects that differ in one part only, which are made here as the program makes them."""
        data = [{"x": Series((1,))}, {"x": Series((2,))}]
        for kind, parts in [(Leak, (3, data[0], 1, Ratio(1), None)), (Trace, (3, data[0], data[0], 1, Ratio(1), None))]:
            self.assertEqual(kind(*parts), kind(*parts))
            for at, part in enumerate(parts):
                other = data[1] if part == data[0] else Ratio(7) if part is None or part == Ratio(1) and at > 2 else 2
                changed = parts[:at] + (other,) + parts[at + 1:]
                with self.subTest(kind=kind.__name__, at=at):
                    self.assertIs(kind(*parts) == kind(*changed), False)
                    self.assertIs(kind(*changed) != kind(*parts), True)

    def test_equal_to_nothing_else(self):
        for found in (leak(X << 1, 0), trace(X >> 1, 0)):
            for other in [*NO_FORMULAS, X, vars(found)]:
                with self.subTest(found=type(found).__name__, other=repr(other)):
                    self.assertIs(found == other, False)
                    self.assertIs(found != other, True)
            self.assertIs(bool(found), True)

    def test_kinds_of_values(self):
        found = leak((X << 1) * Ratio(1, 2), 0)
        self.assertEqual([type(value) for value in row(found)[:3]], [int, dict, int])
        self.assertEqual([type(found.whole), found.short], [Ratio, None])
        self.assertEqual({type(series) for series in found.data.values()}, {Series})
        found = trace(Y.total(), 3)
        self.assertEqual([type(found.length), type(found.place), type(found.one), type(found.two)], [int, int, dict, dict])
        self.assertEqual({type(found.left), type(found.right)}, {Ratio})

    def test_nothing_can_be_set(self):
        for found, names in [
            (leak(X << 1, 0), "length data place whole short"),
            (trace(X >> 1, 0), "length one two place left right"),
        ]:
            for name in names.split():
                with self.subTest(name=name):
                    with self.assertRaises(AttributeError):
                        setattr(found, name, 5)
        self.assertEqual(leak(X << 1, 0).place, 0)


class InterfaceTest(unittest.TestCase):
    def test_defined_here(self):
        for thing in (ahead, back, leak, trace, Leak, Trace):
            self.assertEqual(thing.__module__, looks.__name__)
        for name in ("length", "data", "place", "whole", "short", "__eq__"):
            self.assertIn(name, vars(Leak))
        for name in ("length", "one", "two", "place", "left", "right", "__eq__"):
            self.assertIn(name, vars(Trace))

    def test_example_of_the_document(self):
        x = Formula.letter("x")
        found = [
            ahead(x.moving(7)),
            ahead((x << 1) - x),
            ahead((x << 3) >> 3),
            back(x.moving(7)),
            back(x.total()),
            back(x.total() - x.total()),
            back(x.tally(3) >> 2),
        ]
        self.assertEqual(found, [0, 1, 0, 6, None, 0, 4])
        leaked = leak(x << 2, 1)
        told = [leaked.length, str(leaked.data["x"]), leaked.place, str(leaked.whole), leaked.short, leak(x << 2, 2)]
        self.assertEqual(told, [3, "0 0 0", 0, "0", None, None])


if __name__ == "__main__":
    unittest.main()
