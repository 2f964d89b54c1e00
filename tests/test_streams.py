"""Tests of seriesforms.streams, against the values of whole series and a search through small continuations."""

import itertools
import random
import unittest

from kit import FORTY, NO_FORMULAS, NO_NUMBERS, ODD, STRANGE, Kit, data_with, fraction, heaviness, letters_of
from kit import patterns, plain_value, random_formula, too_heavy

from seriesforms import streams as module
from seriesforms.errors import Clash, Ended, InvalidData, NoEntry, NotAFormula, NotARunner, TooHeavy
from seriesforms.formulas import Formula
from seriesforms.ratios import Ratio
from seriesforms.sameness import same
from seriesforms.series import Series
from seriesforms.streams import Runner
from seriesforms.values import value

X = Formula.letter("x")
Z = Formula.letter("z")
Y = Formula.letter("y", full=True)
CLOCK = Formula.clock()
NO_DICTS = [*STRANGE, 0, "x", Ratio(1), X, Series(())]
NO_RUNNERS = [*STRANGE, 0, "x", Ratio(1), X, Series(()), {}, Runner]

# A formula of each kind of step, and of several.
KINDS = [
    X, Y, CLOCK, Formula.constant(Ratio(2, 3)), X + Z, X - Z, 3 * X, X >> 1, X >> 8, X << 1, X << 8, X | Z, X & Z,
    X.total(), X.total(3), X.moving(3, 2), X.moving(7), X.average(4), X.average(7, 5), X.smooth(Ratio(1, 2)), X.filled(),
    X.since(Z), X.season(4, 1), X.season(12, 11), X.head(3), X.head(8), X.rest(2), X.gaps(), X.tally(3), X.tally(7),
    X.age(), (X << 3) - X, ((X << 2) >> 5).filled(), (X << 1).gaps(), (CLOCK << 4) - CLOCK, (X << 8).total() + (Z >> 3),
    ((X << 2).since(Z << 5)) | Y, (X.smooth(3) << 1).average(5, 2) & (Y << 3), (X << 4).head(8), (Z << 6).rest(3) - X,
    ((X << 3) | (Z << 1)).moving(5).season(2, 1), (X.total() << 7) - X.total(), (X + Y).since(Z.season(3, 0)) << 2,
]


def drawn(letters, length, source, share=0.35):
    """Rows of entries: a list of dicts."""
    worths = [0, 1, -1, 2, 7, Ratio(1, 2), Ratio(-5, 3)]
    return [
        {
            letter.name: None if not letter.full and source.random() < share else source.choice(worths)
            for letter in letters
        }
        for _ in range(length)
    ]


def as_data(letters, rows):
    return {letter.name: Series(tuple(row[letter.name] for row in rows)) for letter in letters}


def fed(formula, rows):
    runner = Runner(formula)
    for row in rows:
        runner.feed(row)
    return runner


def row_of(runner, data, length):
    """What a twin of the runner tells for these data and at the end."""
    twin, told = runner.twin(), ()
    for place in range(length):
        told += twin.feed({name: series.entries[place] for name, series in data.items()})
    return told + twin.end()


def searched_parting(runner, other, most):
    """The parting with a length up to `most`, by a search."""
    letters = letters_of(runner.formula, other.formula)
    for length in range(most + 1):
        for pattern in patterns(letters, length):
            places = itertools.product(range(length), range(len(letters)))
            for spot in [None, *[(place, at) for place, at in places if not pattern[place][at]]]:
                data = data_with(letters, pattern, spot)
                if row_of(runner, data, length) != row_of(other, data, length):
                    return length, data
    return None


class FeedTest(Kit):
    def check(self, formula, rows):
        """That a runner tells the series of the formula, each place as soon as it can."""
        runner, told = Runner(formula), []
        self.assertEqual((runner.fed, runner.ended, runner.formula), (0, False, formula))
        for place, row in enumerate(rows):
            found = runner.feed(row) if place % 2 else runner(row)
            self.assertIs(type(found), tuple)
            self.assertEqual(len(found), 1 if place >= formula.lead else 0)
            self.assertEqual((runner.fed, runner.ended), (place + 1, False))
            told += found
        rest = runner.end()
        self.assertIs(type(rest), tuple)
        self.assertEqual((runner.fed, runner.ended), (len(rows), True))
        data = as_data(formula.letters, rows)
        self.assertEqual(told + list(rest), list(value(formula, data, len(rows)).entries))
        if len(rows) < 100:
            self.assertEqual([fraction(entry) for entry in told + list(rest)], plain_value(formula, data, len(rows)))
        self.assertLessEqual({type(entry) for entry in told + list(rest)}, {Ratio, type(None)})

    def test_each_kind(self):
        source = random.Random(91)
        for formula in KINDS:
            for length in (0, 1, 2, 3, 5, 8, 9, 10, 17, 30):
                with self.subTest(formula=str(formula), length=length):
                    self.check(formula, drawn(formula.letters, length, source))

    def test_random_formulas(self):
        source = random.Random(92)
        for _ in range(400):
            formula = random_formula(source, [X, Y, Z], source.randint(1, 5))
            with self.subTest(formula=str(formula)):
                self.check(formula, drawn(formula.letters, source.randint(0, 14), source, source.choice([0, 0.2, 0.7])))

    def test_formulas_that_are_too_heavy_for_questions(self):
        source = random.Random(93)
        heavy = (X << 8).moving(7).moving(7).moving(7).filled() | (Z >> 8).tally(7).season(11, 3)
        self.assertEqual(too_heavy(heavy), 65536)
        self.check(heavy, drawn([X, Z], 60, source))

    def test_over_a_thousand_places(self):
        source = random.Random(94)
        for formula in [X.total() - (X.total() >> 7), (X << 3).filled().average(7, 2), CLOCK.total(12) + X.age()]:
            with self.subTest(formula=str(formula)):
                self.check(formula, drawn(formula.letters, 1100, source))

    def test_other_keys_do_no_harm(self):
        runner = Runner(X + Y)
        entries = {"x": 1, "y": 2, "z": "other", 5: None, ("x",): ODD, None: 3, "": 4}
        before = dict(entries)
        self.assertEqual(runner.feed(entries), (3,))
        self.assertEqual(list(entries), list(before))
        self.assertEqual(runner.feed(entries={"y": FORTY, "x": None}), (None,))
        self.assertEqual(runner(entries={"y": FORTY, "x": -FORTY}), (0,))
        self.assertEqual(Runner(CLOCK).feed({}), (0,))
        self.assertEqual(Runner(formula=CLOCK).feed({1: 2}), (0,))

    def test_what_is_given_can_be_altered(self):
        runner, entries = Runner(X.moving(3)), {"x": 1}
        runner.feed(entries)
        entries["x"] = 100
        self.assertEqual(runner.feed({"x": 2}), (3,))
        entries.clear()
        self.assertEqual(runner.feed({"x": 3}), (6,))

    def test_the_same_runner_twice(self):
        rows = drawn([X, Z], 12, random.Random(95))
        formula = (X << 2).since(Z) + X
        one, two = fed(formula, rows), fed(formula, rows)
        self.assertEqual(one.end(), two.end())


class FeedErrorsTest(Kit):
    def raised(self, error, action, *arguments, **named):
        with self.assertRaises(error) as context:
            action(*arguments, **named)
        self.assertIs(type(context.exception), error)
        self.assertEqual(vars(context.exception), {})

    def test_no_formula(self):
        for given in NO_FORMULAS:
            with self.subTest(given=repr(given)):
                self.refused(NotAFormula, given, Runner, given)
                self.refused(NotAFormula, given, Runner, formula=given)

    def test_no_dict(self):
        runner = Runner(X)
        for given in NO_DICTS:
            with self.subTest(given=repr(given)):
                self.refused(InvalidData, given, runner.feed, given)
                self.refused(InvalidData, given, runner, given)
                self.refused(InvalidData, given, runner.feed, entries=given)
                self.refused(InvalidData, given, Runner(CLOCK).feed, given)
        self.assertEqual(runner.fed, 0)

    def test_no_entries(self):
        runner = Runner((X + Y + Z).total())
        good = {"x": 1, "y": 2, "z": 3}
        for name in "xyz":
            self.refused(NoEntry, name, runner.feed, {other: 1 for other in "xyz" if other != name})
            for given in NO_NUMBERS:
                if given is not None:
                    with self.subTest(name=name, given=repr(given)):
                        self.refused(NoEntry, name, runner.feed, {**good, name: given})
                        self.refused(NoEntry, name, runner, {**good, name: given})
        self.refused(NoEntry, "y", runner.feed, {**good, "y": None})
        self.refused(NoEntry, "x", runner.feed, {})
        self.refused(NoEntry, "x", runner.feed, {"z": "no", "y": None, "x": True})
        self.refused(NoEntry, "y", runner.feed, {"z": "no", "y": None, "x": None})
        self.refused(NoEntry, "z", runner.feed, {"z": "no", "y": 3, "x": None})
        self.assertEqual(runner.fed, 0)
        self.assertEqual(runner.feed(good), (6,))

    def test_ended(self):
        runner = Runner(X << 1)
        runner.feed({"x": 5})
        self.assertEqual(runner.end(), (None,))
        for action, arguments in [
            (runner.feed, ({"x": 1},)), (runner.feed, (None,)), (runner.feed, ({},)), (runner, ({"x": 1},)), (runner, (5,)),
            (runner.end, ()), (runner.twin().end, ()), (runner.twin().feed, ({"x": 1},)),
            (runner.parting, (Runner(X),)), (Runner(X).parting, (runner,)), (runner.parting, (runner,)),
        ]:
            self.raised(Ended, action, *arguments)
        self.assertEqual((runner.fed, runner.ended), (1, True))

    def test_what_is_refused_alters_nothing(self):
        source = random.Random(96)
        for formula in KINDS:
            rows = drawn(formula.letters, 12, source)
            plain, other = Runner(formula), Runner(formula)
            for row in rows:
                told = plain.feed(row)
                for wrong in (None, [], *[{**row, letter.name: "1"} for letter in formula.letters]):
                    with self.assertRaises((InvalidData, NoEntry)):
                        other.feed(wrong)
                self.assertEqual(other.feed(row), told)
            self.assertEqual(other.end(), plain.end())


class TwinTest(Kit):
    def test_twins_go_on_alone(self):
        source = random.Random(97)
        for formula in KINDS:
            first, one, two = [drawn(formula.letters, length, source) for length in (6, 9, 4)]
            runner = Runner(formula)
            told = [entry for row in first for entry in runner.feed(row)]
            twin = runner.twin()
            self.assertIsNot(twin, runner)
            self.assertIs(type(twin), Runner)
            self.assertEqual((twin.formula, twin.fed, twin.ended), (formula, 6, False))
            one_told = told + [entry for row in one for entry in runner.feed(row)]
            two_told = told + [entry for row in two for entry in twin.feed(row)]
            self.assertEqual((runner.fed, twin.fed), (15, 10))
            with self.subTest(formula=str(formula)):
                letters = formula.letters
                ended = one_told + list(runner.end())
                self.assertEqual(ended, list(value(formula, as_data(letters, first + one), 15).entries))
                self.assertEqual((runner.ended, twin.ended), (True, False))
                ended = two_told + list(twin.end())
                self.assertEqual(ended, list(value(formula, as_data(letters, first + two), 10).entries))

    def test_twins_of_ended_runners(self):
        runner = fed(X.total(), [{"x": 1}, {"x": 2}])
        runner.end()
        twin = runner.twin()
        self.assertEqual((twin.fed, twin.ended, twin.formula), (2, True, X.total()))
        with self.assertRaises(Ended):
            twin.feed({"x": 1})

    def test_twins_of_twins(self):
        runner = Runner(X.smooth(3))
        runner.feed({"x": 1})
        one = runner.twin().twin()
        one.feed({"x": 2})
        self.assertEqual((runner.fed, one.fed, one.twin().fed), (1, 2, 2))
        self.assertEqual(runner.feed({"x": 0}), (-2,))
        self.assertEqual(one.feed({"x": 0}), (-8,))


class PartingTest(Kit):
    def check(self, runner, other, most):
        """That the parting is what a search finds, and that both runners stay as they were."""
        before = [(found.fed, found.ended, found.twin().end()) for found in (runner, other)]
        found = runner.parting(other)
        self.assertEqual([(found.fed, found.ended, found.twin().end()) for found in (runner, other)], before)
        self.assertEqual(runner.parting(other=other), found)
        back = other.parting(runner)
        self.assertEqual(back, found)
        searched = searched_parting(runner, other, most)
        if found is None or found[0] > most:
            self.assertIsNone(searched)
        else:
            self.assertEqual(found, searched)
        if found is not None:
            self.assertIs(type(found), tuple)
            length, data = found
            self.assertEqual([type(length), type(data)], [int, dict])
            self.assertEqual(set(data), {letter.name for letter in letters_of(runner.formula, other.formula)})
            self.assertNotEqual(row_of(runner, data, length), row_of(other, data, length))
        return found

    def test_runners_that_are_alike(self):
        for one, two in [
            (Runner(X.total()), Runner(X.total())),
            (Runner(X.total()), fed(X.total(), [{"x": None}, {"x": 0}])),
            (fed(X.total(), [{"x": 2}, {"x": None}]), fed(X.total(), [{"x": 5}, {"x": -3}, {"x": 0}])),
            (fed(X, [{"x": 2}, {"x": None}]), Runner(X)),
            (fed(X.moving(3), [{"x": 7}, {"x": 2}, {"x": 1}]), fed(X.moving(3), [{"x": 2}, {"x": 1}])),
            (fed(X.moving(3, 3), [{"x": 7}, {"x": 2}, {"x": 1}]), fed(X.moving(3, 3), [{"x": 2}, {"x": 1}])),
            (fed(X.season(3, 1), [{"x": 1}] * 3), Runner(X.season(3, 1))),
            (fed(X.season(3, 1), [{"x": 1}] * 2), fed(X.season(3, 0), [{"x": None}])),
            (fed(X.filled(), [{"x": 4}]), fed(X.filled(), [{"x": 1}, {"x": 4}, {"x": None}])),
            (fed(X.head(2), [{"x": 4}] * 2), fed(X.head(8), [{"x": 4}] * 8)),
            (fed(X.rest(2), [{"x": 4}] * 2), Runner(X)),
            (fed(X << 2, [{"x": 4}, {"x": 5}]), fed(X << 2, [{"x": 1}, {"x": 2}, {"x": 3}])),
            (fed(CLOCK, [{}, {}]), fed(2 + CLOCK, [])),
            (fed(X.age(), [{"x": 1}, {"x": None}]), fed(X.age(), [{"x": None}, {"x": 1}, {"x": None}])),
            (fed((Y << 1) >> 1, [{"y": 3}]), fed(Y, [])),
            (fed(X.since(Z), [{"x": 1, "z": 1}, {"x": 4, "z": None}]), fed(X.since(Z), [{"x": 5, "z": 1}])),
            (fed(X.total() - (X.total() >> 2), [{"x": 4}]), fed((X.total() - (X.total() >> 2)), [{"x": 4}])),
        ]:
            with self.subTest(one=str(one.formula), two=str(two.formula)):
                self.assertIsNone(self.check(one, two, 3))

    def test_by_hand(self):
        def shown(one, two):
            found = self.check(one, two, 3)
            return found[0], {name: str(series) for name, series in found[1].items()}

        total = X.total()
        self.assertEqual(shown(fed(total, [{"x": 2}]), Runner(total)), (1, {"x": "0"}))
        self.assertEqual(shown(Runner(total), Runner(2 * total)), (1, {"x": "1"}))
        self.assertEqual(shown(Runner(X.filled()), fed(X.filled(), [{"x": 2}])), (1, {"x": "_"}))
        self.assertEqual(shown(Runner(X), Runner(X >> 1)), (1, {"x": "0"}))
        self.assertEqual(shown(Runner(X << 1), Runner(X)), (1, {"x": "0"}))
        self.assertEqual(shown(Runner(Y << 1), Runner((Y << 2) >> 1)), (2, {"y": "0 0"}))
        self.assertEqual(shown(Runner(X + Z), Runner(X - Z)), (1, {"x": "0", "z": "1"}))
        self.assertEqual(shown(Runner(X + 2 * Z), Runner(2 * X + Z)), (1, {"x": "1", "z": "0"}))
        self.assertEqual(shown(Runner(X.since(Z)), Runner(X & Z)), (1, {"x": "_", "z": "0"}))
        self.assertEqual(shown(Runner(X.moving(3, 2)), Runner(X.moving(2, 2))), (3, {"x": "1 0 0"}))
        # A number of places that are owed that is unlike parts even without any further place.
        for one, two in [
            (fed(X << 1, [{"x": 1}]), Runner(X << 1)), (fed(X << 1, [{"x": 1}]), fed(X, [{"x": 1}])),
            (fed(X << 2, [{"x": 1}] * 3), fed(X << 1, [{"x": 1}] * 3)), (fed(Z << 2, []), fed(X << 3, [{"x": 1}])),
        ]:
            names = {letter.name for letter in letters_of(one.formula, two.formula)}
            self.assertEqual(shown(one, two), (0, {name: "" for name in names}))
        # So do unlike entries among those that are owed.
        self.assertEqual(shown(fed((X << 1) | X, [{"x": 1}]), fed((X << 1) | X, [{"x": 2}])), (0, {"x": ""}))
        self.assertEqual(shown(fed((X << 1) | X, [{"x": 1}]), fed((X << 1) | X, [{"x": None}])), (0, {"x": ""}))

    def test_length_one_differs_where_length_zero_does_not(self):
        one, two = fed(X << 1, [{"x": 1}]), fed(2 * (X << 1), [{"x": 1}])
        self.assertEqual(self.check(one, two, 3), (1, {"x": Series((1,))}))
        one, two = fed((X << 1).gaps(), [{"x": 1}]), fed(1 + 0 * (X << 1).gaps(), [{"x": 1}])
        self.assertEqual(self.check(one, two, 3), (1, {"x": Series((0,))}))

    def test_late_partings(self):
        one = fed(X.season(12, 0).filled() | Y, [{"x": 1, "y": 2}])
        two = fed(X.season(12, 0).filled() | Y, [{"x": 1, "y": 2}] * 2)
        self.assertEqual(self.check(one, two, 2)[0], 11)
        one, two = Runner(CLOCK.season(11, 10) | 0 * CLOCK), fed(0 * CLOCK, [])
        self.assertEqual(self.check(one, two, 3)[0], 11)
        one, two = fed(Y.total(12) + 0, [{"y": 0}] * 5), fed(Y.total(12), [{"y": 0}] * 6)
        self.assertEqual(self.check(one, two, 3), (7, {"y": Series((1, 0, 0, 0, 0, 0, 0))}))

    def test_random_runners(self):
        source = random.Random(98)
        met = {None: 0, 0: 0, 1: 0, 2: 0, 3: 0}
        for _ in range(700):
            letters = source.choice([[X], [Y], [X, Y]])
            formula = random_formula(source, letters, source.randint(1, 4))
            other = random_formula(source, letters, source.randint(1, 3))
            other = source.choice([formula, formula, other, formula.filled(), formula + 0])
            rows = drawn(letters, 6, source)
            many = source.randint(0, 5)
            one, two = fed(formula, rows[:many]), Runner(other)
            for row in rows[:source.choice([many, many, source.randint(0, 5)])]:
                two.feed(row if source.random() < 0.8 else drawn(letters, 1, source)[0])
            if too_heavy(formula, other):
                self.refused(TooHeavy, too_heavy(formula, other), one.parting, two)
                continue
            with self.subTest(one=str(formula), two=str(other), fed=(one.fed, two.fed)):
                found = self.check(one, two, 3 if len(letters) == 1 else 2)
                key = None if found is None else min(found[0], 3)
                met[key] += 1
        self.assertGreater(min(met.values()), 5)

    def test_formulas_that_are_the_same(self):
        """Runners that have been fed nothing are alike just where their formulas with equal leads are the same."""
        source = random.Random(99)
        for _ in range(150):
            formula = random_formula(source, [X], source.randint(1, 3))
            other = source.choice([formula.filled(), formula | formula, formula.gaps(), formula + 0, formula.head(3)])
            if formula.lead == other.lead and not too_heavy(formula, other):
                with self.subTest(formula=str(formula), other=str(other)):
                    self.assertIs(Runner(formula).parting(Runner(other)) is None, same(formula, other))

    def test_great_numbers(self):
        one, two = fed(X.total(), [{"x": FORTY}]), fed(X.total(), [{"x": FORTY + Ratio(1, FORTY)}])
        self.assertEqual(one.parting(two), (1, {"x": Series((0,))}))
        two.feed({"x": Ratio(-1, FORTY)})
        self.assertIsNone(one.parting(two))

    def test_results_are_new(self):
        one, two = fed(X.total(), [{"x": 2}]), Runner(X.total())
        data = one.parting(two)[1]
        data["x"] = 5
        data.clear()
        self.assertEqual(one.parting(two), (1, {"x": Series((0,))}))

    def test_itself_and_its_twin(self):
        for formula in KINDS:
            if not too_heavy(formula, formula):
                runner = fed(formula, drawn(formula.letters, 5, random.Random(100)))
                self.assertIsNone(runner.parting(runner))
                self.assertIsNone(runner.parting(runner.twin()))


class PartingErrorsTest(Kit):
    def test_no_runner(self):
        ended = Runner(X)
        ended.end()
        for given in NO_RUNNERS:
            with self.subTest(given=repr(given)):
                self.refused(NotARunner, given, Runner(X).parting, given)
                self.refused(NotARunner, given, Runner(X).parting, other=given)
                self.refused(NotARunner, given, ended.parting, given)

    def test_order(self):
        heavy, full = X.moving(7).moving(7).moving(7), Formula.letter("x", True)
        ended = Runner(full)
        ended.end()
        for one, two in [(ended, Runner(heavy)), (Runner(heavy), ended), (ended, ended)]:
            with self.assertRaises(Ended):
                one.parting(two)
        self.refused(Clash, "x", Runner(full).parting, Runner(heavy))
        self.refused(Clash, "x", Runner(heavy).parting, Runner(full))
        self.refused(TooHeavy, 65536, Runner(heavy).parting, Runner(X))
        self.refused(TooHeavy, 65536, Runner(X).parting, fed(heavy, [{"x": 1}]))
        # Even where the numbers of owed places are unlike.
        self.refused(TooHeavy, 65536, Runner(heavy << 1).parting, fed(heavy << 1, [{"x": 1}]))
        self.refused(Clash, "x", Runner(X << 1).parting, fed(full << 1, [{"x": 1}]))
        wide = CLOCK
        for _ in range(15):
            wide = wide.total()
        self.refused(TooHeavy, 64, Runner(wide + wide).parting, Runner(wide + (wide + CLOCK)))
        self.refused(TooHeavy, 65536, Runner((wide + wide) & heavy).parting, Runner(wide + (wide + CLOCK)))

    def test_exactly_at_the_limits(self):
        wide = CLOCK
        for _ in range(15):
            wide = wide.total()
        one, two = Runner(wide + wide), Runner(2 * wide + 0 * wide)
        self.assertEqual(heaviness(one.formula, two.formula)[1], 64)
        self.assertIsNone(one.parting(two))
        two.feed({})
        self.assertEqual(one.parting(two), (1, {}))
        formula = X.moving(7).filled() & Z
        self.assertEqual(heaviness(formula, formula)[0], 65536)
        one, two = Runner(formula), Runner(formula)
        for row in drawn([X, Z], 9, random.Random(101)):
            one.feed(row)
            two.feed(row)
        self.assertIsNone(one.parting(two))
        two.feed({"x": 1, "z": None})
        self.assertIsNotNone(one.parting(two))
        self.refused(TooHeavy, 65536, one.parting, Runner(formula & Formula.letter("a")))


class InterfaceTest(Kit):
    def test_defined_here(self):
        self.assertEqual(Runner.__module__, module.__name__)
        for name in ("__init__", "__call__", "feed", "end", "twin", "parting", "formula", "fed", "ended"):
            self.assertIn(name, vars(Runner))

    def test_nothing_can_be_set(self):
        runner = Runner(X)
        for name in ("formula", "fed", "ended"):
            with self.assertRaises(AttributeError):
                setattr(runner, name, 5)

    def test_equality_and_truth(self):
        runner = Runner(X)
        self.assertIs(bool(runner), True)
        self.assertIs(runner == runner, True)
        for other in (Runner(X), runner.twin(), X, 0, None):
            self.assertIs(runner == other, False)
            self.assertIs(runner != other, True)

    def test_example_of_the_document(self):
        x = Formula.letter("x")
        runner, other = Runner((x << 1) - x), Runner(x.total())
        told = [runner.feed({"x": 3}), runner({"x": None}), runner.feed({"x": 5}), runner.feed({"x": 9})]
        found = [told[:3], str(told[3][0]), runner.end(), runner.fed, str(other.feed({"x": 0})[0])]
        self.assertEqual(found, [[(), (None,), (None,)], "4", (None,), 4, "0"])
        self.assertIsNone(other.parting(Runner(x.total())))
        self.assertEqual(str(other.feed({"x": 2})[0]), "2")
        length, data = other.parting(Runner(x.total()))
        self.assertEqual([length, str(data["x"])], [1, "0"])


if __name__ == "__main__":
    unittest.main()
