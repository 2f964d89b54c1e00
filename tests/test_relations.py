"""Tests of seriesforms.relations, checked against what formulas give for drawn data."""

import random
import unittest
from fractions import Fraction

from kit import NO_FORMULAS, Kit, fraction, heaviness, letters_of, plain_value, random_formula, too_heavy

from seriesforms import relations as module
from seriesforms.errors import Clash, InvalidCount, NotAFormula, TooHeavy
from seriesforms.formulas import Formula
from seriesforms.ratios import Ratio
from seriesforms.relations import combined, relations
from seriesforms.sameness import same
from seriesforms.series import Series
from seriesforms.values import value

X = Formula.letter("x")
Z = Formula.letter("z")
Y = Formula.letter("y", full=True)
CLOCK = Formula.clock()
ONE = Formula.constant(1)
ZERO = Formula.constant(0)
UP = X - (X >> 1)
HALF = Ratio(1, 2)

# Formulas, and the rows of their reduced basis.
TABLE = [
    ((X,), []),
    ((ZERO,), [(1,)]),
    ((0 * X,), [(1,)]),
    ((ONE,), []),
    ((X - X,), [(1,)]),
    ((X.head(1).rest(1),), [(1,)]),
    ((X, X), [(1, -1)]),
    ((X, 2 * X), [(1, -HALF)]),
    ((2 * X, X), [(1, -2)]),
    ((X, Ratio(-2, 3) * X), [(1, Ratio(3, 2))]),
    ((X, Z), []),
    ((X, Z, X + Z), [(1, 1, -1)]),
    ((X + Z, X, Z), [(1, -1, -1)]),
    ((X - Z, Z, X), [(1, 1, -1)]),
    ((X + Z, X - Z, X, Z), [(1, 0, -1, -1), (0, 1, -1, 1)]),
    ((X, Z, X + Z, X - Z), [(1, 0, -HALF, -HALF), (0, 1, -HALF, HALF)]),
    ((X, X >> 1), []),
    ((X, X >> 1, X - (X >> 1)), [(1, -1, -1)]),
    ((X << 1, X, (X << 1) - X), [(1, -1, -1)]),
    ((X << 3, X << 1, X), []),
    (((X << 3) >> 3, X), [(1, -1)]),
    (((X << 3) >> 2, X << 1), [(1, -1)]),
    ((X >> 2, (X << 4) >> 6), [(1, -1)]),
    ((UP.total(), X, X >> 2, UP + (UP >> 1)), [(0, 1, -1, -1)]),
    ((Y.total(), Y.total() >> 1, Y), [(1, -1, -1)]),
    ((Y.total(), Y.total() >> 3, Y.moving(3)), [(1, -1, -1)]),
    ((Y.total(), Y.total() >> 3, Y, Y >> 1, Y >> 2), [(1, -1, -1, -1, -1)]),
    ((X.total(), X.total() >> 1, X), [(1, -1, -1)]),
    ((X.moving(2, 2), X, X >> 1), [(1, -1, -1)]),
    ((X.average(2, 2), X.moving(2, 2)), [(1, -HALF)]),
    ((X.average(2), X.moving(2)), []),
    ((Y.average(3, 3), Y.moving(3, 3), Y, Y >> 1, Y >> 2), [
        (1, 0, -Ratio(1, 3), -Ratio(1, 3), -Ratio(1, 3)), (0, 1, -1, -1, -1),
    ]),
    ((Y.smooth(2), Y.smooth(2) >> 1, Y), [(1, 1, -2)]),
    ((X.smooth(HALF), X.smooth(HALF) >> 1, X), [(1, -HALF, -HALF)]),
    ((X.smooth(HALF).filled(), X.smooth(HALF).filled() >> 1, X.filled()), []),
    ((Y.smooth(0), Y.head(1)), [(1, -1)]),
    ((CLOCK, CLOCK >> 1, ONE), [(1, -1, -1)]),
    ((CLOCK, ONE), []),
    ((CLOCK >> 3, CLOCK, ONE), [(1, -1, 3)]),
    ((CLOCK << 3, CLOCK, ONE), [(1, -1, -3)]),
    ((CLOCK.total(), CLOCK, ONE), []),
    ((CLOCK.total(), CLOCK.total() >> 1, CLOCK, ONE), [(1, -1, -1, 0)]),
    ((X.filled(), X), [(1, -1)]),
    ((X.filled(), X.filled() >> 1, X), [(1, 0, -1)]),
    ((X.gaps(), X), [(1, 0)]),
    ((X.gaps(), Z), []),
    ((X.tally(2), X, ONE), []),
    ((X.tally(2), X, X >> 1, ONE), [(1, 0, 0, -2)]),
    ((X.age(), X), [(1, 0)]),
    ((X.head(2), X.rest(2)), [(1, 0), (0, 1)]),
    ((X.season(2, 0), X.season(2, 1), Z), [(1, 0, 0), (0, 1, 0), (0, 0, 1)]),
    ((X.season(4, 0), X.season(6, 2), CLOCK), [(1, -1, 0)]),
    ((X.season(4, 0), X.season(6, 2), CLOCK, X), [(1, 0, 0, -1), (0, 1, 0, -1)]),
    ((CLOCK.head(1), X), [(1, 0)]),
    ((CLOCK.head(2), ONE), []),
    ((CLOCK.season(4, 3).season(3, 2), ONE.season(4, 3)), []),
    ((CLOCK.season(5, 1).head(6), ONE), [(1, -1)]),
    ((CLOCK.season(5, 1).head(7), ONE), []),
    ((X.since(Z), X, Z), [(1, -1, 0)]),
    ((X.since(Z), X), []),
    ((Y.since(Y), Y), [(1, -1)]),
    ((X | Z, X), [(1, -1)]),
    ((X | Z, Z), []),
    ((X & Z, X), [(1, -1)]),
    # At the last place but two all is there; only the last but one differ from one another.
    ((Y << 1, (Y << 2) | (Y << 1)), []),
    ((Y << 2, (Y << 2) | (Y << 1)), [(1, -1)]),
    (((Y << 1).gaps(), ONE), []),
    (((Y << 1).gaps(), Y << 1), [(1, 0)]),
    (((Y << 2).gaps(), (Y << 1).gaps(), ONE), []),
    (((Y << 2).gaps(), (Y << 1).gaps(), ONE, Y << 1), [(0, 1, 0, 0)]),
    ((ZERO, X, ZERO), [(1, 0, 0), (0, 0, 1)]),
    ((X, ZERO, X, X), [(1, 0, 0, -1), (0, 1, 0, 0), (0, 0, 1, -1)]),
]


def plain(rows):
    return [tuple(fraction(number) for number in row) for row in rows]


class RelationsKit(Kit):
    def check_reduced(self, basis, many):
        """That this is of the form of a reduced basis of relations between so many formulas."""
        self.assertIs(type(basis), tuple)
        pivots = []
        for row in basis:
            self.assertIs(type(row), tuple)
            self.assertEqual({type(number) for number in row}, {Ratio})
            self.assertEqual(len(row), many)
            pivots.append(next(at for at, number in enumerate(row) if number != 0))
            self.assertEqual(row[pivots[-1]], 1)
        self.assertEqual(pivots, sorted(set(pivots)))
        for row, pivot in zip(basis, pivots):
            self.assertEqual([row[at] for at in pivots if at != pivot], [0] * (len(pivots) - 1))

    def check_holds(self, basis, formulas, source, runs):
        """That each relation holds for drawn data, by a plain calculation."""
        for _ in range(runs):
            length = source.randint(1, 14)
            data = drawn(letters_of(*formulas), length, source)
            rows = list(zip(*[plain_value(formula, data, length) for formula in formulas]))
            for entries in rows:
                if None not in entries:
                    for relation in plain(basis):
                        self.assertEqual(sum(many * entry for many, entry in zip(relation, entries)), 0)

    def check(self, formulas, source, runs=60):
        """That the basis is reduced, that it holds, and that for drawn data there are no further relations."""
        basis = relations(*formulas)
        self.check_reduced(basis, len(formulas))
        self.check_holds(basis, formulas, source, 4)
        found = searched_basis(formulas, source, runs)
        if len(found) > len(basis):
            found = searched_basis(formulas, source, 40 * runs)
        self.assertEqual(plain(basis), found)


def drawn(letters, length, source):
    share = source.choice([0, 0.1, 0.4, 0.8])
    data = {}
    for letter in letters:
        entries = [source.choice([0, 0, 1, 2, -3, 7, Ratio(1, 3)]) for _ in range(length)]
        if not letter.full:
            entries = [None if source.random() < share else entry for entry in entries]
        data[letter.name] = Series(tuple(entries))
    return data


def searched_basis(formulas, source, runs):
    """The reduced basis of the relations that hold for so many drawn data."""
    solved = {}
    for _ in range(runs):
        length = source.choice([*range(1, 13), 16, 27])
        data = drawn(letters_of(*formulas), length, source)
        for entries in zip(*[value(formula, data, length).entries for formula in formulas]):
            if None not in entries:
                take([fraction(entry) for entry in entries], solved)
    free = [at for at in range(len(formulas)) if at not in solved]
    basis = []
    for pivot in free:
        row = [Fraction(int(at == pivot)) for at in range(len(formulas))]
        for at, base in solved.items():
            row[at] = -base[pivot]
        basis.append(tuple(row))
    return basis


def take(row, solved):
    """Takes a row into those that are solved for their last indexes."""
    for at, base in solved.items():
        row = [many - row[at] * other for many, other in zip(row, base)]
    last = max((at for at, many in enumerate(row) if many), default=None)
    if last is not None:
        row = [many / row[last] for many in row]
        for at, base in list(solved.items()):
            solved[at] = [many - base[last] * other for many, other in zip(base, row)]
        solved[last] = row


class TableTest(RelationsKit):
    def test_rows(self):
        for formulas, rows in TABLE:
            with self.subTest(formulas=[str(formula) for formula in formulas]):
                found = relations(*formulas)
                self.assertEqual(list(found), rows)
                self.check_reduced(found, len(formulas))

    def test_against_drawn_data(self):
        source = random.Random(71)
        for formulas, _ in TABLE:
            with self.subTest(formulas=[str(formula) for formula in formulas]):
                self.check(formulas, source, 50)

    def test_in_another_order(self):
        """The relations span the same, whatever the order; the basis is reduced for each."""
        source = random.Random(72)
        for formulas, _ in TABLE:
            other = source.sample(formulas, len(formulas))
            with self.subTest(formulas=[str(formula) for formula in other]):
                self.check(other, source, 50)

    def test_without_formulas(self):
        self.refused(InvalidCount, 0, relations)

    def test_one_formula(self):
        self.assertEqual(relations(X), ())
        self.assertEqual(relations(X - X), ((1,),))


class RandomTest(RelationsKit):
    def test_random_formulas(self):
        source = random.Random(73)
        met = 0
        while met < 100:
            letters = source.choice([[X], [Y], [X, Y]])
            formulas = [random_formula(source, letters, source.randint(1, 3)) for _ in range(source.randint(1, 4))]
            one, last = formulas[0], formulas[-1]
            formulas.append(source.choice([one + last, 2 * one, one >> 1, last - one, one, one.filled()]))
            source.shuffle(formulas)
            if too_heavy(*formulas):
                self.refused(TooHeavy, too_heavy(*formulas), relations, *formulas)
                continue
            met += 1
            with self.subTest(formulas=[str(formula) for formula in formulas]):
                self.check(formulas, source)

    def test_pairs_that_are_the_same(self):
        for one, two in [
            (X.filled().filled(), X.filled()), (X.total() >> 2, (X >> 2).total()), (Y.moving(3).moving(3), Y.moving(3).moving(3) + 0),
            ((X << 2).filled() >> 2, ((X << 2) >> 2).filled()), (X.tally(4), (1 - X.gaps()).moving(4)),
        ]:
            with self.subTest(one=str(one)):
                self.assertIs(same(one, two), True)
                self.assertEqual(relations(one, two), ((1, -1),))
                self.assertEqual(relations(one, two, 3 * one), ((1, 0, -Ratio(1, 3)), (0, 1, -Ratio(1, 3))))

    def test_many_formulas(self):
        formulas = [Y >> many for many in range(1, 5)] + [Y, Y.moving(5, 5), Y.total() - (Y.total() >> 5), CLOCK, ONE]
        found = relations(*formulas)
        self.check_reduced(found, 9)
        self.check_holds(found, formulas, random.Random(74), 30)
        self.assertEqual([str(number) for number in found[0]], ["1", "1", "1", "1", "1", "0", "-1", "0", "0"])
        self.assertEqual([str(number) for number in found[1]], ["0", "0", "0", "0", "0", "1", "-1", "0", "0"])
        self.assertEqual(len(found), 2)

    def test_unlike_leads(self):
        """What formulas with leads of all sizes tell of one place is set against one another."""
        source = random.Random(75)
        formulas = [Y << 8, Y << 5, Y << 2, Y, (Y << 8) - (Y << 5), (Y << 5) + Y - (Y << 2)]
        rows = relations(*formulas)
        self.assertEqual(rows, ((1, 0, -1, 1, -1, -1), (0, 1, -1, 1, 0, -1)))
        self.check_reduced(rows, 6)
        self.check_holds(rows, formulas, source, 60)


class CombinedTest(RelationsKit):
    def test_by_hand(self):
        for formula, others, numbers in [
            (X, (), None),
            (ZERO, (), ()),
            (X - X, (), ()),
            (X.head(1).rest(1), (), ()),
            (X, (UP,), None),
            (X, (X,), (1,)),
            (X, (2 * X,), (HALF,)),
            (X.average(2, 2), (X.moving(2, 2),), (HALF,)),
            (X, (X, X), (0, 1)),
            (X, (X, X, X), (0, 0, 1)),
            (X, (X, Z), (1, 0)),
            (X, (Z, X), (0, 1)),
            (X + Z, (X, Z), (1, 1)),
            (X + Z, (Z, X, X + Z), (0, 0, 1)),
            (X + Z, (X + Z, X, Z), (0, 1, 1)),
            (X + Z, (X - Z, X, Z), (0, 1, 1)),
            (X + Z, (X, X - Z, Z), (0, 1, 2)),
            (X + Z, (X, Z, X - Z), (0, 2, 1)),
            (X, (Z,), None),
            (ZERO, (X, Z), (0, 0)),
            (ZERO, (ZERO, X), (0, 0)),
            (X, (ZERO, X), (0, 1)),
            (X, (X, ZERO), (1, 0)),
            (CLOCK, (CLOCK >> 1, ONE), (1, 1)),
            (CLOCK >> 2, (CLOCK, ONE), (1, -2)),
            (CLOCK, (ONE,), None),
            (Y.total(), (Y.total() >> 2, Y, Y >> 1), (1, 1, 1)),
            (Y.moving(3, 3), (Y.total(), Y.total() >> 3), (1, -1)),
            # Without common places everything is a sum, also the others by themselves.
            (X.head(1), (X.rest(1),), (0,)),
            (X, (X.head(1), X.rest(1)), (0, 0)),
            (X.filled(), (X,), (1,)),
            (X.filled(), (X.filled() >> 1, X), (0, 1)),
            (X << 2, (X, X << 1, (X << 2) - X), (1, 0, 1)),
        ]:
            with self.subTest(formula=str(formula), others=[str(other) for other in others]):
                found = combined(formula, *others)
                self.assertEqual(found, numbers)
                if found is not None:
                    self.assertIs(type(found), tuple)
                    self.assertLessEqual({type(number) for number in found}, {Ratio})

    def test_zeros_hang_on_the_common_places(self):
        """Whether one of the others is a sum of those behind it is asked where `formula` has an entry, too."""
        self.assertEqual(combined(X.head(1), CLOCK, X), (0, 1))
        self.assertEqual(combined(CLOCK.head(1), CLOCK, ONE), (0, 0))
        self.assertEqual(combined(ONE.head(1), CLOCK, ONE), (0, 1))
        self.assertEqual(combined(ONE, CLOCK, ONE), (0, 1))
        self.assertEqual(combined(X.season(3, 1).head(2), CLOCK.head(2), X, ONE), (0, 1, 0))

    def test_against_the_basis(self):
        source = random.Random(76)
        met = {True: 0, False: 0}
        while min(met.values()) < 20:
            letters = source.choice([[X], [Y]])
            others = [random_formula(source, letters, source.randint(0, 2)) for _ in range(source.randint(1, 4))]
            formula = source.choice([others[0] + others[-1], 3 * others[-1], random_formula(source, letters, 2)])
            if too_heavy(formula, *others):
                continue
            found = combined(formula, *others)
            met[found is not None] += 1
            basis = searched_basis([formula, *others], source, 100)
            with self.subTest(formula=str(formula), others=[str(other) for other in others]):
                wanted = tuple(-number for number in basis[0][1:]) if basis and basis[0][0] else None
                self.assertEqual(None if found is None else tuple(fraction(number) for number in found), wanted)

    def test_by_name(self):
        self.assertEqual(combined(formula=ZERO), ())
        self.assertIsNone(combined(formula=X))


def chain(many):
    """The letters a0, a1, .. of which so many are not full."""
    return [Formula.letter(f"a{at}") for at in range(many)]


class ErrorsTest(Kit):
    def test_no_formulas(self):
        for given in NO_FORMULAS:
            with self.subTest(given=repr(given)):
                self.refused(NotAFormula, given, relations, given)
                self.refused(NotAFormula, given, relations, given, X)
                self.refused(NotAFormula, given, relations, X, given)
                self.refused(NotAFormula, given, relations, X, given, "other")
                self.refused(NotAFormula, given, relations, X, Formula.letter("x", True), given)
                self.refused(NotAFormula, given, combined, given)
                self.refused(NotAFormula, given, combined, given, "other")
                self.refused(NotAFormula, given, combined, X, given, "other")
                self.refused(NotAFormula, given, combined, formula=given)

    def test_clash(self):
        full = Formula.letter("x", True)
        one = Formula.letter("b", True) + Formula.letter("c") + Formula.letter("a")
        two = Formula.letter("c", True) + Formula.letter("b") + Formula.letter("a")
        heavy = X.moving(7).moving(7).moving(7)
        for action in (relations, combined):
            with self.subTest(action=action.__name__):
                self.refused(Clash, "x", action, X, full)
                self.refused(Clash, "x", action, X, Z, Y, full)
                self.refused(Clash, "b", action, one, Z, two)
                self.refused(Clash, "x", action, heavy, full)

    def test_too_heavy(self):
        wide = CLOCK
        for _ in range(15):
            wide = wide.total()
        self.assertEqual(wide.width, 16)
        for action in (relations, combined):
            with self.subTest(action=action.__name__):
                self.refused(TooHeavy, 65536, action, X.moving(7).moving(7).moving(7))
                self.refused(TooHeavy, 65536, action, *chain(17))
                self.refused(TooHeavy, 65536, action, X.moving(7), Z.moving(7), X.moving(6))
                self.refused(TooHeavy, 65536, action, X << 8, *chain(13))
                self.refused(TooHeavy, 64, action, wide, wide, wide, wide, CLOCK)
                self.refused(TooHeavy, 64, action, wide + wide, wide + wide + CLOCK)
                self.refused(TooHeavy, 65536, action, wide, wide, wide, wide, CLOCK, *chain(17))

    def test_exactly_at_the_limits(self):
        wide = CLOCK
        for _ in range(15):
            wide = wide.total()
        self.assertEqual(heaviness(wide, wide, wide, wide)[1], 64)
        self.assertEqual(relations(wide, wide, wide, 2 * wide), ((1, 0, 0, -HALF), (0, 1, 0, -HALF), (0, 0, 1, -HALF)))
        self.assertEqual(combined(wide, wide, wide, 2 * wide), (0, 0, HALF))
        formulas = [X.moving(7), Z.moving(7), X >> 2]
        self.assertEqual(heaviness(*formulas)[0], 65536)
        self.assertEqual(relations(*formulas), ())
        self.refused(TooHeavy, 65536, relations, *formulas, X.season(2, 0))
        letters = chain(8)
        self.assertEqual(heaviness(letters[0] << 7, *letters)[0], 2048)
        self.assertEqual(combined(letters[0] << 7, *letters), None)
        # A formula that is given twice counts twice.
        formula = X.moving(7).filled()
        self.assertEqual(heaviness(formula, formula)[0], 32768)
        self.assertEqual(relations(formula, formula), ((1, -1),))
        self.refused(TooHeavy, 65536, relations, formula, formula, formula)
        self.refused(TooHeavy, 65536, combined, formula, formula, X.tally(3))

    def test_formulas_beyond_a_star_have_no_names(self):
        with self.assertRaises(TypeError):
            relations(formulas=X)


class ResultsTest(Kit):
    def test_the_same_call_twice(self):
        formulas = [X, Z.total(), X + Z, X >> 1, UP]
        self.assertEqual(relations(*formulas), relations(*formulas))
        self.assertEqual(combined(*formulas), combined(*formulas))

    def test_formulas_stay(self):
        formulas = [UP.total(), X, X >> 2, UP + (UP >> 1)]
        before = [(str(formula), formula.letters, formula.load) for formula in formulas]
        relations(*formulas)
        combined(*formulas)
        self.assertEqual([(str(formula), formula.letters, formula.load) for formula in formulas], before)

    def test_great_numbers(self):
        great = 10 ** 39 + 7
        self.assertEqual(relations(great * X, Ratio(1, great) * X), ((1, -great * great),))
        self.assertEqual(combined(Ratio(great, 3) * X + Z, Z, X), (1, Ratio(great, 3)))


class InterfaceTest(unittest.TestCase):
    def test_defined_here(self):
        for thing in (relations, combined):
            self.assertEqual(thing.__module__, module.__name__)

    def test_example_of_the_document(self):
        x = Formula.letter("x")
        up = x - (x >> 1)
        basis = relations(up.total(), x, x >> 2, up + (up >> 1))
        found = [len(basis), basis[0] == (0, 1, -1, -1), combined(x, up)]
        self.assertEqual(found, [1, True, None])
        self.assertEqual(str(combined(x.average(2, 2), x.moving(2, 2))[0]), "1/2")


if __name__ == "__main__":
    unittest.main()
