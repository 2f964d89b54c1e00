"""Runs the examples of the document, and checks what it promises over the whole program."""

import inspect
import random
import re
import unittest
from pathlib import Path

from kit import random_formula, too_heavy

from seriesforms import errors, limits
from seriesforms.certificates import certify, certify_full, certify_within
from seriesforms.checker import accepts
from seriesforms.errors import Clash, NoWay, NotUndoable, TooHeavy, TooLarge
from seriesforms.formulas import Formula
from seriesforms.looks import ahead, back, leak, trace
from seriesforms.places import alike_places, gap, never_gaps, starts
from seriesforms.ratios import Ratio
from seriesforms.reading import names, read
from seriesforms.relations import combined, relations
from seriesforms.sameness import breach, parting, same, within
from seriesforms.series import Series
from seriesforms.sheets import Sheet
from seriesforms.steps import idle, part, put, without
from seriesforms.streams import Runner
from seriesforms.undoing import Undoer, undone
from seriesforms.values import value

HERE = Path(__file__).resolve().parent
DOCUMENT = HERE.parent.parent / "shared" / "DOC.md"
X = Formula.letter("x")
Z = Formula.letter("z")
Y = Formula.letter("y", full=True)

# What can be called, with the names of what it takes; a star stands ahead of what takes all that is left.
CALLS = {
    Ratio: "top bottom", Ratio.read: "text", Ratio.over: "self other", Ratio.power: "self exponent", Series: "entries",
    Series.read: "text", Formula.letter: "name full", Formula.constant: "number", Formula.clock: "",
    Formula.total: "self every", Formula.moving: "self wide least", Formula.average: "self wide least",
    Formula.smooth: "self weight", Formula.filled: "self", Formula.since: "self other", Formula.season: "self modulus remainder",
    Formula.head: "self count", Formula.rest: "self count", Formula.gaps: "self", Formula.tally: "self wide",
    Formula.age: "self", read: "text letters", names: "text", value: "formula data length", same: "formula other",
    within: "formula other", parting: "formula other", breach: "formula other", ahead: "formula", back: "formula",
    leak: "formula count", trace: "formula count", starts: "formula", never_gaps: "formula", gap: "formula",
    alike_places: "formula other", relations: "*formulas", combined: "formula *formulas", put: "formula formulas",
    part: "formula path", without: "formula path", idle: "formula", Runner: "formula", Runner.feed: "self entries",
    Runner.__call__: "self entries", Runner.end: "self", Runner.twin: "self", Runner.parting: "self other",
    Undoer: "formula", Undoer.feed: "self entry", undone: "formula series", Sheet: "", Sheet.add: "self name full",
    Sheet.define: "self name text", Sheet.drop: "self name", Sheet.claim: "self claim", Sheet.lift: "self index",
    Sheet.undo: "self", Sheet.text: "self name", Sheet.trial: "self", Sheet.tried: "self action",
    accepts: "claim certificate", certify: "formula other", certify_within: "formula other", certify_full: "formula",
}


def blocks(text):
    """The examples in a text, each a list of pairs of what is entered and what is shown."""
    found = []
    for block in re.findall(r"```\n(>>>.*?)```", text, re.S):
        pairs = []
        for line in block.splitlines():
            if line.startswith(">>> "):
                pairs.append((line[4:], ""))
            else:
                pairs[-1] = (pairs[-1][0], line)
        found.append(pairs)
    return found


class ExamplesTest(unittest.TestCase):
    def test_examples(self):
        many = 0
        for pairs in blocks((HERE / "examples.md").read_text(encoding="utf-8")):
            known = {}
            for entered, shown in pairs:
                with self.subTest(entered=entered):
                    self.assertEqual(self.shown(entered, known), shown)
                    many += 1
        self.assertGreater(many, 60)

    def shown(self, entered, known):
        """What is shown behind this row; errors are shown by their attributes other than `shown`."""
        try:
            code = compile(entered, "example", "eval")
        except SyntaxError:
            exec(entered, known)
            return ""
        try:
            found = eval(code, known)
        except Exception as error:
            kept = ", ".join(f"{name}={worth!r}" for name, worth in vars(error).items() if name != "shown")
            return f"raises {type(error).__name__}({kept})"
        return "" if found is None else repr(found)

    @unittest.skipUnless(DOCUMENT.exists(), "the document is not there")
    def test_no_example_is_left_out(self):
        copied = blocks((HERE / "examples.md").read_text(encoding="utf-8"))
        self.assertEqual(copied, blocks(DOCUMENT.read_text(encoding="utf-8")))


class InterfaceTest(unittest.TestCase):
    def test_names_of_arguments(self):
        for call, wanted in CALLS.items():
            found = []
            for name, parameter in inspect.signature(call).parameters.items():
                found.append("*" + name if parameter.kind is parameter.VAR_POSITIONAL else name)
            with self.subTest(call=call):
                self.assertEqual(" ".join(found), wanted)

    def test_default_values(self):
        for call, wanted in [
            (Ratio, {"bottom": 1}), (Formula.letter, {"full": False}), (Formula.total, {"every": 0}), (Formula.moving, {"least": 1}),
            (Formula.average, {"least": 1}), (Sheet.add, {"full": False}), (Formula.head, {}), (leak, {}), (trace, {}),
        ]:
            found = {name: each.default for name, each in inspect.signature(call).parameters.items()}
            self.assertEqual({name: worth for name, worth in found.items() if worth is not inspect.Parameter.empty}, wanted)

    def test_limits_and_errors_are_there(self):
        self.assertEqual((limits.MOST_LOAD, limits.MOST_WIDTH, limits.MOST_LEAD), (65536, 64, 8))
        for family in (errors.GivenError, errors.NameProblem, errors.AnswerError):
            for error in family.__subclasses__():
                self.assertEqual(error.__bases__, (family,))


def outcome(action):
    """What an action returns or raises, so that it can be compared."""
    try:
        return action()
    except (Clash, NoWay, NotUndoable, TooHeavy, TooLarge) as error:
        return type(error).__name__, vars(error)


class RepeatedTest(unittest.TestCase):
    """The same questions, asked twice and in another order, have equal answers; nothing is altered by them."""

    def questions(self, one, two, data, length):
        return [
            lambda: value(one, data, length), lambda: same(one, two), lambda: within(one, two), lambda: parting(one, two),
            lambda: breach(two, one), lambda: ahead(one), lambda: back(one), lambda: leak(one, 0), lambda: trace(one, 1),
            lambda: starts(one), lambda: never_gaps(one), lambda: gap(one), lambda: alike_places(one, two),
            lambda: relations(one, two, one + two), lambda: combined(one, two, one), lambda: put(one, {"x": two}),
            lambda: idle(one), lambda: without(one, ()) if one.parts else None, lambda: certify(one, two),
            lambda: certify_within(one, two), lambda: certify_full(one), lambda: Undoer(one).feed(3),
            lambda: undone(one, Series((1, 2))), lambda: self.told(one, data, length), lambda: Runner(one).parting(Runner(two)),
            lambda: read(str(one), one.letters) == one, lambda: names(str(two)), lambda: (str(one), one.load, one.letters),
        ]

    def told(self, formula, data, length):
        runner, found = Runner(formula), ()
        for place in range(length):
            found += runner.feed({name: series.entries[place] for name, series in data.items()})
        return found + runner.end()

    def test_in_another_order(self):
        source = random.Random(141)
        for _ in range(120):
            letters = source.choice([[X], [Y], [X, Y]])
            one, two = [random_formula(source, letters, source.randint(1, 3)) for _ in range(2)]
            length = source.randint(0, 6)
            data = {name: Series(tuple(source.randint(-2, 2) for _ in range(length))) for name in "xy"}
            questions = self.questions(one, two, data, length)
            first = [outcome(question) for question in questions]
            order = list(range(len(questions)))
            source.shuffle(order)
            again = {at: outcome(questions[at]) for at in order}
            for at in range(len(questions)):
                with self.subTest(one=str(one), two=str(two), question=at):
                    self.assertEqual(again[at], first[at])

    def test_answers_fit_together(self):
        source = random.Random(142)
        for _ in range(150):
            one, two = [random_formula(source, [X], source.randint(1, 3)) for _ in range(2)]
            two = source.choice([two, one | one, one.filled(), one + 0])
            if too_heavy(one & two, one) or too_heavy(one - two, one - one):
                continue
            with self.subTest(one=str(one), two=str(two)):
                self.assertIs(same(one, two), within(one, two) and within(two, one))
                self.assertIs(same(one, two), same(one - two, one - one) and alike_places(one, two))
                self.assertIs(never_gaps(one), same(one.gaps(), Formula.constant(0)))
                self.assertIs(alike_places(one, two), same(one.gaps(), two.gaps()))
                self.assertIs(within(one, two), same(one & two, one) and relations(one - two) == ((1,),))
                if one.lead == two.lead:
                    self.assertIs(Runner(one).parting(Runner(two)) is None, same(one, two))

    def test_returned_dicts_can_be_altered(self):
        one, two = X.filled(), X
        runner = Runner(X.total())
        runner.feed({"x": 1})
        makers = [
            lambda: parting(one, two).data, lambda: breach(two >> 1, two).data, lambda: leak(X << 1, 0).data,
            lambda: trace(one, 3).one, lambda: trace(one, 3).two, lambda: gap(one)[1], lambda: runner.parting(Runner(X.total()))[1],
        ]
        for maker in makers:
            found = maker()
            kept = dict(found)
            found["x"] = None
            found[5] = 6
            del found["x"]
            self.assertEqual(maker(), kept)
        found = parting(one, two)
        found.data["x"] = 7
        self.assertEqual(found, parting(one, two))

    def test_given_dicts_can_be_altered(self):
        data = {"x": Series((1, 2))}
        found = value(X.total(), data, 2)
        data["x"] = Series((5, 5))
        self.assertEqual(str(found), "1 3")
        formulas = {"x": Z}
        made = put(X + 1, formulas)
        formulas.clear()
        self.assertEqual(str(made), "(z + 1)")

    def test_results_can_be_given_again(self):
        """What one question returns is taken by others."""
        claim, certificate = certify(X, X.filled())
        self.assertIs(accepts(claim, certificate), True)
        found = parting(X, X.filled())
        self.assertEqual(value(X, found.data, found.length).entries[found.place], found.left)
        length, data, place = gap(X.moving(3, 2))
        self.assertIsNone(value(X.moving(3, 2), data, length).entries[place])
        runner = Runner(X.total())
        runner.feed({"x": combined(2 * X, X)[0]})
        length, data = runner.parting(Runner(X.total()))
        self.assertEqual(value(X, data, length).missing, ())
        sheet = Sheet()
        sheet.add("x")
        sheet["f"] = str(relations(X, 3 * X)[0][1]) + " * x"
        self.assertEqual(str(sheet["f"]), "(-1/3 * x)")
        self.assertEqual(undone(Y.total(), value(Y.total(), {"y": Series((1, 2))}, 2)), Series((1, 2)))


class SheetAndAnswersTest(unittest.TestCase):
    def test_claims_hold_as_the_questions_say(self):
        source = random.Random(143)
        for _ in range(100):
            formula = random_formula(source, [X, Y], source.randint(1, 3))
            if too_heavy(formula, formula):
                continue
            sheet = Sheet()
            sheet.add("x")
            sheet.add("y", True)
            sheet["f"] = str(formula)
            self.assertEqual(sheet["f"], formula)
            count = source.randint(0, 4)
            for claim, holds in [
                (("ahead", "f", count), ahead(formula) <= count),
                (("back", "f", count), back(formula) is not None and back(formula) <= count),
                (("full", "f"), never_gaps(formula)),
                (("within", "f", "f | x"), True),
            ]:
                found = None
                try:
                    sheet.claim(claim)
                except errors.Broken as error:
                    found = error
                except errors.NotMade:
                    continue
                with self.subTest(formula=str(formula), claim=claim):
                    self.assertIs(found is None, holds)


if __name__ == "__main__":
    unittest.main()
