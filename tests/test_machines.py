"""Tests of the machines behind the questions: what they tell must be what the plain calculation gives."""

import random
import unittest
from fractions import Fraction

from kit import Plain, fraction, random_formula

from seriesforms.cells import ONES
from seriesforms.formulas import Formula
from seriesforms.machines import Machine
from seriesforms.paths import Path
from seriesforms.ratios import Ratio
from seriesforms.sameness import same
from seriesforms.spans import Span
from seriesforms.terms import combined, difference, dot, minus, multiple, nothing, plus, put_in, unknown

X = Formula.letter("x")
Z = Formula.letter("z")
Y = Formula.letter("y", full=True)
CLOCK = Formula.clock()


def wide_formula(source, depth):
    """A formula with greater counts than those of `random_formula`."""
    if depth == 0 or source.random() < 0.1:
        return source.choice([X, X, Y, Z, CLOCK])

    def inner():
        return wide_formula(source, depth - 1)

    wide, modulus = source.randint(3, 7), source.randint(4, 12)
    steps = [
        lambda: inner() + inner(),
        lambda: inner() | inner(),
        lambda: inner().since(inner()),
        lambda: inner() >> source.randint(2, 8),
        lambda: inner() << source.randint(1, 4),
        lambda: inner().total(modulus),
        lambda: inner().moving(wide, source.randint(1, wide)),
        lambda: inner().average(wide, source.randint(1, wide)),
        lambda: inner().tally(wide),
        lambda: inner().season(modulus, source.randint(0, 3)),
        lambda: inner().head(source.randint(3, 8)),
        lambda: inner().rest(source.randint(3, 8)),
        lambda: inner().smooth(Ratio(source.randint(-3, 3), 2)),
        lambda: inner().filled(),
        lambda: inner().age(),
        lambda: inner().gaps(),
    ]
    try:
        return source.choice(steps)()
    except ArithmeticError:
        return X


class PathTest(unittest.TestCase):
    def check(self, formulas, source, length):
        """That a machine of all of the formulas tells their entries for data with a pattern, cut anywhere."""
        machine = Machine(tuple(formulas))
        choices = [source.randrange(len(machine.patterns)) for _ in range(length)]
        path = Path(machine, choices)
        worths = {}
        for place in range(length):
            for index in range(len(machine.alphabet)):
                worths[place, index] = Fraction(source.randint(-5, 5), source.choice([1, 1, 2, 3]))
        for stop in {length, source.randint(0, length)}:
            data = {}
            for index, letter in enumerate(machine.alphabet):
                gaps = [machine.patterns[choices[place]][index] for place in range(stop)]
                data[letter.name] = [None if gap else worths[place, index] for place, gap in enumerate(gaps)]
            plain = Plain(data, stop)
            for root, formula in enumerate(formulas):
                for place in range(stop):
                    entry = path.tells(root, place, stop)
                    found = None
                    if entry is not None:
                        found = fraction(entry.worth)
                        for spot, many in entry.multiples.items():
                            found += fraction(many) * worths[spot]
                    with self.subTest(formula=str(formula), place=place, stop=stop, data=data):
                        self.assertEqual(found, plain.at(formula, place))

    def test_random_formulas(self):
        source = random.Random(51)
        for turn in range(250):
            formulas = [random_formula(source, [X, Y, Z], source.randint(1, 5)) for _ in range(source.randint(1, 3))]
            self.check(formulas, source, source.choice([1, 2, 5, 9]))

    def test_formulas_with_great_counts(self):
        source = random.Random(52)
        for turn in range(250):
            formulas = [wide_formula(source, source.randint(1, 4)) for _ in range(source.randint(1, 3))]
            self.check(formulas, source, source.choice([4, 12, 20]))

    def test_long_ways(self):
        source = random.Random(53)
        for formula in [
            X.season(12, 5).filled() + X.season(7, 2).season(5, 3).age(), (X << 3).total(12) - (Z.total(11) >> 2),
            X.moving(7, 3).since(Z.season(9, 4)), (Y << 8).average(7, 5) + CLOCK, ((X << 5).head(8) | X.rest(8)).tally(6),
            (X << 2).season(10, 1).moving(5) & ((X.gaps() << 4) >> 1),
        ]:
            self.check([formula, X], source, 90)

    def test_gaps_alone(self):
        source = random.Random(54)
        for turn in range(150):
            formula = wide_formula(source, 4)
            machine, other = Machine((formula,)), Machine((formula,), False)
            choices = [source.randrange(len(machine.patterns)) for _ in range(12)]
            path, other_path = Path(machine, choices), Path(other, choices)
            for place in range(12):
                told, other_told = path.tells(0, place, 12), other_path.tells(0, place, 12)
                self.assertEqual(told is None, other_told is None)
                if other_told is not None:
                    self.assertEqual((other_told.worth, other_told.multiples), (0, {}))


class WindowsTest(unittest.TestCase):
    def test_ones(self):
        self.assertEqual(ONES, tuple(bin(number).count("1") for number in range(64)))

    def test_tallies_are_sums(self):
        for wide in range(2, 8):
            there = 1 - X.gaps()
            self.assertIs(same(X.tally(wide), there.moving(wide)), True)
            self.assertIs(same(Y.average(wide, wide), Ratio(1, wide) * Y.moving(wide, wide)), True)


class MachineTest(unittest.TestCase):
    def test_patterns(self):
        machine = Machine((X + Y + Z,))
        self.assertEqual([letter.name for letter in machine.alphabet], ["x", "y", "z"])
        self.assertEqual(machine.patterns, [(0, 0, 0), (0, 0, 1), (1, 0, 0), (1, 0, 1)])
        self.assertEqual(machine.letters_there(2), [1, 2])
        self.assertEqual([machine.with_gap(0, 0), machine.with_gap(0, 2), machine.with_gap(1, 0)], [2, 1, 3])

    def test_states_do_not_grow_without_need(self):
        """Formulas that share what they remember need few states."""
        for formulas, most in [
            ((X >> 3, X >> 5), 32),
            ((X.moving(4), X.average(4), X.tally(4), 2 * X >> 3), 8),
            ((Y >> 8, Y.moving(7)), 16),
            ((X.filled(), X.age(), X.smooth(2), X.filled().filled()), 2),
            ((Y.season(12, 1), Y.total(4), Y.total(6)), 12),
            ((X << 8,), 9),
        ]:
            machine = Machine(formulas)
            states, at = [machine.start()], 0
            while at < len(states):
                for pattern in range(len(machine.patterns)):
                    moved = machine.move(states[at], pattern)[0]
                    if moved not in states:
                        states.append(moved)
                at += 1
            with self.subTest(formulas=[str(formula) for formula in formulas]):
                self.assertLessEqual(len(states), most)


class TermsTest(unittest.TestCase):
    def test_sums(self):
        half = multiple(unknown(3), 1, 2)
        self.assertEqual(half, (2, {3: 1}))
        self.assertEqual(plus(half, half), (2, {3: 2}))
        self.assertEqual(difference(plus(half, half), unknown(3)), {})
        self.assertEqual(minus(half, half)[1], {})
        self.assertEqual(plus(half, multiple(unknown(-1), 2, 3)), (6, {3: 3, -1: 4}))
        self.assertEqual(multiple(half, 0), nothing())
        self.assertEqual(multiple(half, -4, 3), (3, {3: -2}))
        self.assertEqual(combined({1: 2}, 3, {1: -6, 2: 1}, 1), {2: 1})
        self.assertEqual(dot({1: 2, 5: 1}, {1: 3, 2: 7}), 6)

    def test_put_in(self):
        told = [unknown(0), multiple(unknown(1), 1, 3), plus(unknown(0), unknown(-1))]
        self.assertEqual(put_in((2, {1: 3, 2: 1, -2: 4}), told), (2, {1: 1, 0: 1, -1: 1, -2: 4}))

    def test_random_sums(self):
        source = random.Random(55)

        def worth(terms, row):
            return Fraction(dot(terms[1], row), terms[0])

        row = {index: source.randint(-9, 9) for index in range(-3, 4)}
        for _ in range(300):
            one, two = [
                (source.randint(1, 6), {index: source.choice([-2, -1, 1, 2, 3]) for index in source.sample(range(-3, 4), 3)})
                for _ in range(2)
            ]
            top, bottom = source.randint(-4, 4), source.randint(1, 4)
            self.assertEqual(worth(plus(one, two), row), worth(one, row) + worth(two, row))
            self.assertEqual(worth(minus(one, two), row), worth(one, row) - worth(two, row))
            self.assertEqual(worth(multiple(one, top, bottom), row), worth(one, row) * top / bottom)
            self.assertEqual(bool(difference(one, two)), worth_differs(one, two))


def worth_differs(one, two):
    """Whether two sums have unlike multiples."""
    indexes = set(one[1]) | set(two[1])
    return any(Fraction(one[1].get(at, 0), one[0]) != Fraction(two[1].get(at, 0), two[0]) for at in indexes)


class SpanTest(unittest.TestCase):
    def test_keeps_what_is_new(self):
        span = Span()
        self.assertIsNone(span.keep({}))
        self.assertEqual(span.keep({1: 2, 3: 4}), {1: 1, 3: 2})
        self.assertIsNone(span.keep({1: -3, 3: -6}))
        self.assertEqual(span.keep({1: 1, 3: 5}), {3: 1})
        self.assertIsNone(span.keep({3: 7}))
        self.assertIsNone(span.keep({1: 5}))
        self.assertEqual(span.keep({0: 6, 1: 4, 2: 2}), {0: 3, 1: 2, 2: 1})

    def test_against_ranks(self):
        source = random.Random(56)
        for _ in range(200):
            rows = [[source.choice([0, 0, 1, -1, 2, 3]) for _ in range(4)] for _ in range(6)]
            span = Span()
            for at in range(len(rows)):
                kept = span.keep({index: many for index, many in enumerate(rows[at]) if many})
                self.assertEqual(kept is not None, rank(rows[:at + 1]) > rank(rows[:at]))


def rank(rows):
    rows = [[Fraction(many) for many in row] for row in rows]
    found = 0
    for column in range(4):
        pivot = next((row for row in rows[found:] if row[column]), None)
        if pivot is not None:
            rows.remove(pivot)
            rows.insert(found, pivot)
            for at in range(found + 1, len(rows)):
                times = rows[at][column] / pivot[column]
                rows[at] = [many - times * other for many, other in zip(rows[at], pivot)]
            found += 1
    return found


if __name__ == "__main__":
    unittest.main()
