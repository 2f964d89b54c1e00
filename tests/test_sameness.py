"""Tests of seriesforms.sameness, checked against a search through all data of small lengths."""

import random
import unittest

from kit import NO_FORMULAS, Kit, cut, entries_of, heaviness, patterns, random_formula, searched_parting, too_heavy

from seriesforms import sameness
from seriesforms.errors import Clash, NotAFormula, TooHeavy, TooLarge
from seriesforms.formulas import Formula
from seriesforms.ratios import Ratio
from seriesforms.sameness import Parting, breach, parting, same, within
from seriesforms.series import Series

X = Formula.letter("x")
Z = Formula.letter("z")
Y = Formula.letter("y", full=True)
V = Formula.letter("v", full=True)
CLOCK = Formula.clock()
NEVER = Formula.constant(0).head(1).rest(1)

# Pairs that are the same.
ALIKE = [
    (X, X),
    (X + Z, Z + X),
    ((X + Z) - Z, X & Z),
    (X - X, 0 * X),
    (2 * X - X, X),
    (X | X, X),
    (X & X, X),
    (X | Y, X | (Y & Y)),
    (X.filled().filled(), X.filled()),
    (Y.filled(), Y),
    (X.smooth(1), X),
    (X.total(), X.total() & X),
    (X.smooth(0), X.smooth(0) & X),
    ((X >> 1) >> 2, X >> 3),
    ((X << 1) << 2, X << 3),
    ((X >> 2) << 2, X & ((0 * CLOCK) << 2)),
    ((X << 2) >> 2, X & ((0 * CLOCK) >> 2)),
    ((X << 2) >> 2, X.rest(2)),
    (X.head(3) | X.rest(3), X),
    (X.season(2, 0) | X.season(2, 1), X),
    (X.season(2, 0) & X.season(2, 1), NEVER),
    (X.season(4, 1).season(6, 0), NEVER & X),
    (X.season(4, 1).season(6, 1), X.season(12, 1)),
    (X.moving(2, 1), (X + (X >> 1)) | X | (X >> 1)),
    (X.moving(2, 2), X + (X >> 1)),
    (X.average(2, 2), Ratio(1, 2) * (X + (X >> 1))),
    (X.average(2), (Ratio(1, 2) * (X + (X >> 1))) | X | (X >> 1)),
    (X.gaps().gaps(), 0 * CLOCK),
    (X.tally(2), (1 - X.gaps()) + ((1 - X.gaps()) >> 1 | 0 * CLOCK)),
    (X.tally(3), (1 - X.gaps()).moving(3)),
    (X.gaps(), 1 - (1 - X.gaps())),
    (Y.gaps(), 0 * CLOCK),
    (Y.age(), 0 * CLOCK),
    (CLOCK, Formula.constant(1).total() - 1),
    (CLOCK.total() + CLOCK.total(), CLOCK * 1 + (2 * CLOCK.total() - CLOCK)),
    (X.since(X), X.filled()),
    (X.since(Y), X | (0 * CLOCK)),
    (X.total(2), X.season(2, 0) | (X + ((X >> 1) | 0 * CLOCK)).season(2, 1)),
    (Y.total(), Y + ((Y.total() >> 1) | 0 * CLOCK)),
    (Y.smooth(3), (3 * Y - 2 * (Y.smooth(3) >> 1)) | Y),
    (X.filled(), X | (X.filled() >> 1)),
    (X.age(), (0 * X) | ((X.age() >> 1) + 1)),
    (Y.moving(3, 3), (Y.total() - (Y.total() >> 3)) & (Y >> 2) | (Y.total().season(12, 2).head(3))),
    ((Y << 1).total(), (Y << 1).total() & (Y << 1)),
    (X.filled() & Z.filled(), (X.filled() & Z.filled()) | NEVER),
    (Formula.constant(3), Formula.constant(Ratio(6, 2))),
]

# Pairs of which the first is within the other one, but which are not the same.
INSIDE = [
    (NEVER, X),
    (X.head(2), X),
    (X & Z, X),
    (X, X | Z),
    (X.season(3, 2), X),
    (X.total(), X.total().filled()),
    ((X >> 1) << 1, X),
    ((X << 1) >> 1, X),
    (Y.total() - (Y.total() >> 3), Y.moving(3)),
    (X, X.filled()),
    (X.moving(3, 2), X.moving(3, 1)),
    (X.since(Z), X.since(Z) | Y),
    (X.smooth(2), X.smooth(2).filled()),
    ((X << 3) - (X << 1), ((X << 2) - X) << 1 | Z),
]


def row(found):
    """A parting as plain values, or None."""
    if found is None:
        return None
    return found.length, found.data, found.place, found.left, found.right


class SameTest(Kit):
    def test_pairs_that_are_the_same(self):
        for one, two in ALIKE:
            with self.subTest(one=str(one), two=str(two)):
                for left, right in [(one, two), (two, one)]:
                    self.assertIs(same(left, right), True)
                    self.assertIs(within(left, right), True)
                    self.assertIsNone(parting(left, right))
                    self.assertIsNone(breach(left, right))

    def test_pairs_within(self):
        for one, two in INSIDE:
            with self.subTest(one=str(one), two=str(two)):
                self.assertIs(within(one, two), True)
                self.assertIsNone(breach(one, two))
                self.assertIs(same(one, two), False)
                self.assertIs(same(two, one), False)
                self.assertIs(within(two, one), False)
                self.assertEqual(row(parting(one, two)), searched_parting(one, two, 5))
                self.assertEqual(row(breach(two, one)), searched_parting(two, one, 5, True))

    def test_by_name(self):
        for action in (same, within):
            self.assertIs(action(other=X.filled(), formula=X), action is within)
        self.assertEqual(parting(other=X, formula=Z), parting(Z, X))
        self.assertEqual(breach(other=X, formula=Z), breach(Z, X))

    def test_formulas_without_letters(self):
        one = Formula.constant(1)
        self.assertIs(same(CLOCK, CLOCK.total() - (CLOCK.total() >> 1)), False)
        self.assertEqual(row(parting(CLOCK, 0 * CLOCK)), (2, {}, 1, 1, 0))
        self.assertEqual(row(parting(one, one << 1)), (1, {}, 0, 1, None))
        self.assertEqual(row(parting(one >> 2, one << 1)), (2, {}, 0, None, 1))
        self.assertEqual(row(breach(one, one.head(8))), (9, {}, 8, 1, None))


class PartingTest(Kit):
    def check(self, one, two, most):
        """That partings and breaches of these formulas are those that the search finds, and as good beyond it."""
        for only_within, ask, tell in [(False, same, parting), (True, within, breach)]:
            with self.subTest(one=str(one), two=str(two), within=only_within):
                if too_heavy(one, two):
                    self.refused(TooHeavy, too_heavy(one, two), tell, one, two)
                    continue
                found = tell(one, two)
                self.assertIs(ask(one, two), found is None)
                searched = searched_parting(one, two, most, only_within)
                if found is None or found.length <= most:
                    self.assertEqual(row(found), searched)
                else:
                    self.assertIsNone(searched)
                    left = entries_of(one, found.data, found.length)[found.place]
                    right = entries_of(two, found.data, found.length)[found.place]
                    self.assertEqual((found.left, found.right), (left, right))
                    self.assertNotEqual(left, right)

    def test_each_kind_against_each(self):
        one = [
            X, 2 * X, X + 1, X >> 1, X >> 2, X << 1, X << 2, X.total(), X.total(2), X.moving(2), X.moving(2, 2), X.average(2),
            X.smooth(2), X.filled(), X.season(2, 1), X.head(2), X.rest(2), X.gaps(), X.tally(2), X.age(), X | CLOCK, X & X,
            X.since(X.season(2, 0)), CLOCK, Formula.constant(0),
        ]
        for left in one:
            for right in one:
                self.check(left, right, 4)

    def test_random_pairs(self):
        source = random.Random(21)
        for turn in range(330):
            letters, most = source.choice([([X], 6), ([Y], 8), ([X, Y], 5), ([X, Z], 3), ([Y, V], 6)])
            one = random_formula(source, letters, source.randint(1, 4))
            two = random_formula(source, letters, source.randint(1, 4))
            self.check(one, two, most)

    def test_random_variations(self):
        source = random.Random(22)
        variations = [
            lambda f: (f << 1) >> 1, lambda f: (f >> 1) << 1, lambda f: f.filled(), lambda f: f + 0 * f, lambda f: f & f.total(),
            lambda f: f.total() - (f.total() >> 1), lambda f: f.moving(3) - (f >> 1) - (f >> 2), lambda f: f + f.gaps(),
            lambda f: f.head(3) | f.rest(3), lambda f: f.season(2, 0) | f.season(2, 1), lambda f: f.smooth(1),
            lambda f: f.since(f), lambda f: 2 * f.average(2) - f.moving(2), lambda f: f | (f << 1), lambda f: (f << 2) - (f >> 1),
        ]
        for turn in range(330):
            letters, most = source.choice([([X], 5), ([Y], 8), ([X, Y], 4), ([X, Z], 3)])
            one = random_formula(source, letters, source.randint(1, 3))
            try:
                two = source.choice(variations)(one)
            except TooLarge:
                continue
            self.check(one, two, most)

    def test_the_least_length_pattern_place_and_spot(self):
        pairs = [
            # A single 1 at the first place at which it parts, for the first letter.
            (X, 2 * X, (1, {"x": "1"}, 0, 1, 2)),
            (X + Z, X - Z, (1, {"x": "0", "z": "1"}, 0, 1, -1)),
            (X - Z, Z - X, (1, {"x": "1", "z": "0"}, 0, 1, -1)),
            (V + Y, V + 2 * Y, (1, {"v": "0", "y": "1"}, 0, 1, 2)),
            (Y.total(), Y, (2, {"y": "1 0"}, 1, 1, 0)),
            (Y.total(), Y.total() + (Y >> 1 & NEVER | 0 * Y), None),
            (Y.moving(3), Y.total(), (4, {"y": "1 0 0 0"}, 3, 0, 1)),
            # All entries 0 if these part them.
            (X, X + 1, (1, {"x": "0"}, 0, 0, 1)),
            (X, X.gaps(), (1, {"x": "1"}, 0, 1, 0)),
            (X.gaps(), 0 * CLOCK, (1, {"x": "_"}, 0, 1, 0)),
            (X.filled(), X, (2, {"x": "0 _"}, 1, 0, None)),
            (X.filled(), X | 0 * CLOCK, (1, {"x": "_"}, 0, None, 0)),
            # The least pattern, letter by letter and place by place.
            (X | Z, Z | X, (1, {"x": "1", "z": "0"}, 0, 1, 0)),
            (X | Z, X, (1, {"x": "_", "z": "0"}, 0, 0, None)),
            (X & Z, X, (1, {"x": "0", "z": "_"}, 0, None, 0)),
            (X.filled(), X | (X >> 1), (3, {"x": "0 _ _"}, 2, 0, None)),
            (X.moving(3, 2), X.moving(3, 1), (1, {"x": "0"}, 0, None, 0)),
            (X.moving(3, 2), X.moving(3, 3), (2, {"x": "0 0"}, 1, 0, None)),
            # The first place.
            (X << 1, X, (1, {"x": "0"}, 0, None, 0)),
            ((X << 1) >> 1, X, (1, {"x": "0"}, 0, None, 0)),
            ((X >> 1) << 1, X, (1, {"x": "0"}, 0, None, 0)),
            (X << 2, X << 3, (3, {"x": "0 0 0"}, 0, 0, None)),
            ((X << 2) | 0 * CLOCK, (X << 1) | 0 * CLOCK, (2, {"x": "0 1"}, 0, 0, 1)),
        ]
        for one, two, expected in pairs:
            with self.subTest(one=str(one), two=str(two)):
                found = parting(one, two)
                if expected is None:
                    self.assertIsNone(found)
                else:
                    texts = {name: str(series) for name, series in found.data.items()}
                    self.assertEqual((found.length, texts, found.place, found.left, found.right), expected)
                    self.assertEqual(row(found), searched_parting(one, two, 4))

    def test_late_partings(self):
        pairs = [
            (Y.season(7, 6).season(5, 4), NEVER, 35),
            (Y.season(11, 10).season(7, 6).season(9, 8), NEVER, 693),
            (Y.season(11, 10).season(7, 6).season(9, 8).season(5, 4), NEVER, 3465),
            (X.season(7, 6).season(5, 4), X.season(7, 6).season(5, 4) & X.season(3, 0).filled(), 35),
            (X.season(12, 11).season(11, 10), 2 * X.season(12, 11).season(11, 10), 132),
            (X.season(9, 8).filled() >> 1, (X.season(9, 8).filled() >> 1).head(8), 10),
            (Y.moving(7, 7), Y.moving(7, 6), 6),
            (Y.rest(8) >> 8, NEVER, 17),
            ((Y >> 8) >> 8, NEVER, 17),
            (Y.total(12), Y.total(), 13),
            (CLOCK.total(12), CLOCK.total(11), 12),
        ]
        for one, two, length in pairs:
            with self.subTest(one=str(one), two=str(two)):
                found = parting(one, two)
                self.assertEqual(found.length, length)
                self.assertEqual([len(series) for series in found.data.values()], [length] * len(found.data))
                left = entries_of(one, found.data, length)
                right = entries_of(two, found.data, length)
                self.assertEqual((found.left, found.right), (left[found.place], right[found.place]))
                self.assertNotEqual(found.left, found.right)
                self.assertEqual(left[:found.place], right[:found.place])
                shorter = cut(found.data, length - 1)
                self.assertEqual(entries_of(one, shorter, length - 1), entries_of(two, shorter, length - 1))

    def test_numbers_that_part_late(self):
        """Entries that alike sums hide for a while."""
        pairs = [
            (Y.total() - (Y.total() >> 7), Y.moving(7, 7) & (Y >> 7)),
            (Y.moving(7), Y.total()),
            (Y.moving(7).total(), Y.total().total()),
            (Y.smooth(2).filled(), Y + (Y - (Y >> 1 | Y))),
            (CLOCK.total().total(), (CLOCK >> 1 | 0 * CLOCK) + CLOCK * 0 + CLOCK.moving(2).total()),
            (Y.tally(7), (Y.tally(7) >> 1 | 0 * CLOCK) + 1),
        ]
        for one, two in pairs:
            self.check(one, two, 10)

    def test_great_numbers(self):
        great = 10**39 + 7
        self.assertEqual(row(parting(great * X, (great + 1) * X)), (1, {"x": Series((1,))}, 0, great, great + 1))
        self.assertIs(same(great * (X.smooth(Ratio(1, great))), (great * X).smooth(Ratio(1, great))), True)
        prime = 2**127 - 1
        self.assertIs(same(prime * X.total(), 0 * X), False)
        self.assertEqual(parting(prime * X.filled(), 0 * X.filled()).left, prime)

    def test_within_without_being_the_same_at_other_places(self):
        self.assertEqual(row(breach(X, X.total())), (2, {"x": Series((1, 0))}, 1, 0, 1))
        self.assertEqual(row(breach(X, X >> 1)), (1, {"x": Series((0,))}, 0, 0, None))
        self.assertEqual(row(breach(X >> 1, X)), (2, {"x": Series((1, 0))}, 1, 1, 0))
        self.assertEqual(row(breach(X << 1, X)), (2, {"x": Series((1, 0))}, 0, 0, 1))
        self.assertEqual(row(breach(X | Z, X)), (1, {"x": Series((None,)), "z": Series((0,))}, 0, 0, None))
        self.assertIsNone(breach(NEVER, X << 8))
        self.assertIsNotNone(breach(X << 8, NEVER))


def chain(count):
    """A sum of this number of letters that are not full, with few levels."""
    sums = [Formula.letter(f"a{index}") for index in range(count)]
    while len(sums) > 1:
        sums = [sums[at] + sums[at + 1] if at + 1 < len(sums) else sums[at] for at in range(0, len(sums), 2)]
    return sums[0]


class ErrorsTest(Kit):
    ACTIONS = (same, within, parting, breach)

    def test_no_formulas(self):
        for action in self.ACTIONS:
            for given in NO_FORMULAS:
                with self.subTest(action=action.__name__, given=repr(given)):
                    self.refused(NotAFormula, given, action, given, X)
                    self.refused(NotAFormula, given, action, given, None)
                    self.refused(NotAFormula, given, action, X, given)
                    self.refused(NotAFormula, given, action, other=given, formula=X)
                    self.refused(NotAFormula, given, action, other="other", formula=given)

    def test_clash(self):
        for action in self.ACTIONS:
            with self.subTest(action=action.__name__):
                self.refused(Clash, "y", action, X + Y, Formula.letter("y") + Z)
                self.refused(Clash, "y", action, Formula.letter("y"), Y)
                one = Formula.letter("b", True) + Formula.letter("c") + Formula.letter("a")
                two = Formula.letter("c", True) + Formula.letter("b") + Formula.letter("a")
                self.refused(Clash, "b", action, one, two)
                self.refused(Clash, "b", action, one.moving(7).moving(7).moving(7), two)

    def test_too_heavy(self):
        heavy, wide = X.moving(7).moving(7).moving(7), CLOCK
        for _ in range(16):
            wide = wide.total()
        for action in self.ACTIONS:
            with self.subTest(action=action.__name__):
                self.refused(TooHeavy, 65536, action, heavy, X)
                self.refused(TooHeavy, 65536, action, X, heavy)
                self.refused(TooHeavy, 65536, action, heavy, heavy)
                self.refused(TooHeavy, 64, action, wide + wide, wide + wide)
                self.refused(TooHeavy, 65536, action, heavy + wide + wide, wide + wide)

    def test_exactly_at_the_load(self):
        pairs = [
            (X >> 8, (X >> 3) >> 4, False),
            (X >> 8, X >> 7, False),
            ((X >> 7) & Y, (X >> 7).filled(), False),
            ((X >> 4) >> 3, (X >> 7).total(2), False),
            (((X >> 4) >> 3).age(), (X >> 6).age(), False),
            (X.moving(7).moving(4), X.moving(7), False),
            (X.moving(7).filled(), (X + X - X).moving(7).filled().head(1), False),
            (chain(16), 0 + chain(16), True),
            (chain(15) << 1, (chain(15) + 0) << 1, True),
            (chain(14).filled(), (chain(14) + 0).filled() - 0, True),
            ((X << 7) + Y, (X << 7).season(8, 0).season(8, 0).season(8, 0).season(8, 0) - Y, False),
        ]
        for one, two, alike in pairs:
            with self.subTest(one=str(one)[:50], two=str(two)[:50]):
                self.assertEqual(heaviness(one, two)[0], 65536)
                self.assertIs(parting(one, two) is None, alike)
                if one.size < 20:
                    self.assertIs(same(one, two), alike)
                    self.assertEqual(within(one, two), breach(one, two) is None)
                # One more letter doubles the product, and so does one more step with the factor 2.
                more = two & Formula.letter("more")
                for action in self.ACTIONS:
                    self.refused(TooHeavy, 65536, action, one, more)
                    self.refused(TooHeavy, 65536, action, one.season(2, 0), two)

    def test_exactly_at_the_width(self):
        one = CLOCK
        for _ in range(15):
            one = one.total()
        self.assertEqual(one.width, 16)
        two = one + one
        self.assertEqual((two + 0).width, 32)
        self.assertIs(same(two, 2 * one), True)
        self.assertIs(same(two, one + (one + 0)), True)
        self.assertEqual((two.width, (one + (one + 0)).width), (32, 32))
        self.refused(TooHeavy, 64, same, two, one + (one + CLOCK))
        self.refused(TooHeavy, 64, breach, Y.total() + two, two)
        self.assertIs(same(two, one + (one + 1)), False)

    def test_the_lead_and_each_letter_count(self):
        one = (X << 8).moving(7).moving(6)
        self.assertEqual(one.load, 2048)
        self.refused(TooHeavy, 65536, same, one, (X << 1).moving(3))
        same(one, X)
        self.refused(TooHeavy, 65536, same, chain(17), chain(1))
        same(chain(16), chain(16))
        same(chain(16), Y + V)
        self.refused(TooHeavy, 65536, same, chain(16), X)

    def test_what_is_refused_alters_nothing(self):
        one, two = X.moving(7).moving(7).moving(7), Formula.letter("x", True)
        before = [str(one), one.load, one.letters]
        self.refused(TooHeavy, 65536, same, one, X)
        self.refused(Clash, "x", same, one, two)
        self.assertEqual([str(one), one.load, one.letters], before)
        self.assertIs(same(X, X.filled() & X), True)


class ResultsTest(Kit):
    def test_data_are_new_each_time(self):
        found = parting(X + Z, X - Z)
        data = found.data
        data["x"] = "other"
        del data["z"]
        data[5] = 6
        self.assertEqual(found.data, {"x": Series((0,)), "z": Series((1,))})
        self.assertIsNot(found.data, found.data)
        self.assertEqual(found, parting(X + Z, X - Z))

    def test_equality(self):
        makers = [
            lambda: parting(X, 2 * X), lambda: parting(X, 3 * X), lambda: parting(2 * X, X), lambda: parting(Z, 2 * Z),
            lambda: parting(X >> 1, NEVER), lambda: parting(X, X | Z), lambda: parting(X.filled(), X),
            lambda: parting(X, X + 1), lambda: parting(Y << 1, NEVER), lambda: parting(X << 1, 2 * (X << 1)),
        ]
        for at, one in enumerate(makers):
            for other_at, two in enumerate(makers):
                with self.subTest(one=at, two=other_at):
                    self.assertIs(one() == two(), at == other_at)
                    self.assertIs(one() != two(), at != other_at)
        self.assertEqual(parting(X, X.filled()), parting(X, X | (X >> 1)))
        self.assertEqual(parting(X, 2 * X), breach(X, 2 * X))

    def test_each_part_counts(self):
        """Partings that differ in one part only, which are made here as the program makes them."""
        parts = (3, {"x": Series((1,))}, 1, Ratio(1), None)
        others = (4, {"x": Series((2,))}, 2, None, Ratio(1))
        self.assertEqual(Parting(*parts), Parting(*parts))
        for at, other in enumerate(others):
            with self.subTest(at=at):
                self.assertIs(Parting(*parts) == Parting(*parts[:at], other, *parts[at + 1:]), False)

    def test_equal_to_nothing_else(self):
        found = parting(X, 2 * X)
        for other in [*NO_FORMULAS, X, row(found), vars(found)]:
            with self.subTest(other=repr(other)):
                self.assertIs(found == other, False)
                self.assertIs(found != other, True)
        self.assertIs(bool(found), True)

    def test_kinds_of_values(self):
        found = parting(X.filled() + Ratio(1, 2), X)
        self.assertEqual([type(found.length), type(found.place), type(found.data)], [int, int, dict])
        self.assertIs(type(found.left), Ratio)
        self.assertEqual({type(series) for series in found.data.values()}, {Series})
        self.assertIsNone(parting(X.filled(), X).right)

    def test_nothing_can_be_set(self):
        found = parting(X, 2 * X)
        for name in ("length", "data", "place", "left", "right"):
            with self.subTest(name=name):
                with self.assertRaises(AttributeError):
                    setattr(found, name, 5)
        self.assertEqual(found, parting(X, 2 * X))

    def test_the_same_call_twice(self):
        one, two = X.moving(3, 2).filled(), X.average(3).filled() >> 1
        self.assertEqual(parting(one, two), parting(one, two))
        self.assertEqual(breach(one, two), breach(one, two))


class InterfaceTest(unittest.TestCase):
    def test_defined_here(self):
        for thing in (same, within, parting, breach, Parting):
            self.assertEqual(thing.__module__, sameness.__name__)
        for name in ("length", "data", "place", "left", "right", "__eq__"):
            self.assertIn(name, vars(Parting))

    def test_example_of_the_document(self):
        x, y = Formula.letter("x"), Formula.letter("y", full=True)
        steps = y.total() - (y.total() >> 3)
        found = [
            same(y.moving(3, 3), steps),
            within(steps, y.moving(3, 3)),
            within(y.moving(3, 3), steps),
            same(x.filled().filled(), x.filled()),
            same((x >> 1) << 1, x),
        ]
        self.assertEqual(found, [False, True, False, True, False])
        parted = parting(y.moving(3, 3), steps)
        told = [parted.length, str(parted.data["y"]), parted.place, str(parted.left), parted.right]
        self.assertEqual(told, [3, "0 0 0", 2, "0", None])


class SearchTest(unittest.TestCase):
    def test_patterns_ascend(self):
        found = list(patterns([X, Y, Z], 2))
        self.assertEqual(found, sorted(found))
        self.assertEqual(len(found), 16)


if __name__ == "__main__":
    unittest.main()
