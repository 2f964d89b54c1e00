"""Tests of seriesforms.sheets, against a sheet that makes and asks everything anew (PlainSheet)."""

import random
import unittest

from kit import FORTY, NO_INTEGERS, ODD, STRANGE, Kit, Same

from seriesforms import sheets as module
from seriesforms.errors import AnswerError, Broken, Circular, GivenError, InUse, InvalidClaim, InvalidCount, InvalidIndex
from seriesforms.errors import InvalidName, InvalidText, InvalidTruth, NameProblem, NothingToUndo, NotMade, Taken
from seriesforms.errors import TextError, TooHeavy, TooLarge, UnknownName
from seriesforms.formulas import Formula
from seriesforms.looks import Leak, Trace, leak, trace
from seriesforms.places import gap
from seriesforms.ratios import Ratio
from seriesforms.reading import names, read
from seriesforms.sameness import Parting, breach, parting
from seriesforms.series import Series
from seriesforms.sheets import Sheet
from seriesforms.steps import put
from seriesforms.undoing import Undoer

X = Formula.letter("x")
Y = Formula.letter("y", full=True)
NO_NAMES = [*STRANGE, 0, 1, Ratio(1), X, {}, "", "X", "1a", "_a", "a-b", "a b", " a", "a" * 9, "clock", "total", "age", "a.b"]
NO_TEXTS = [*STRANGE, 0, 1, Ratio(1), X, {}, Series(())]


def sheet_of(*letters, **texts):
    """A sheet with these letters, of which those with a star are full, and these definitions."""
    sheet = Sheet()
    for name in letters:
        sheet.add(name.strip("*"), name[-1] == "*")
    for name, text in texts.items():
        sheet[name] = text
    return sheet


def held(sheet):
    """All that is seen of a sheet."""
    texts = {name: sheet.text(name) for name in sheet.names}
    formulas = {name: (str(sheet[name]), sheet[name].letters) for name in sheet.names}
    return sheet.letters, texts, formulas, sheet.claims, sheet.changes, len(sheet)


class SheetKit(Kit):
    def kept(self, sheet, error, attributes, action, *arguments, **named):
        """That the call raises this very error, with these attributes, and alters nothing."""
        before = held(sheet)
        with self.assertRaises((GivenError, NameProblem, AnswerError)) as context:
            action(*arguments, **named)
        found = context.exception
        self.assertIs(type(found), error)
        self.assertEqual(list(vars(found)), list(attributes))
        for name, worth in attributes.items():
            if isinstance(worth, (int, str)):
                self.assertIs(type(getattr(found, name)), type(worth))
                self.assertEqual(getattr(found, name), worth)
            else:
                self.assertIs(getattr(found, name), worth)
        self.assertEqual(held(sheet), before)
        return found

    def given(self, sheet, error, worth, action, *arguments, **named):
        return self.kept(sheet, error, {"given": worth}, action, *arguments, **named)

    def not_made(self, sheet, worth, cause, attributes, action, *arguments, **named):
        found = self.given(sheet, NotMade, worth, action, *arguments, **named)
        self.assertIs(type(found.__cause__), cause)
        self.assertEqual(vars(found.__cause__), attributes)

    def broken(self, sheet, index, shown, action, *arguments, **named):
        before = held(sheet)
        with self.assertRaises(Broken) as context:
            action(*arguments, **named)
        found = context.exception
        self.assertIs(type(found), Broken)
        self.assertEqual(list(vars(found)), ["index", "shown"])
        self.assertIs(type(found.index), int)
        self.assertEqual((found.index, found.shown), (index, shown))
        self.assertIs(type(found.shown), type(shown))
        self.assertEqual(held(sheet), before)


class LettersTest(SheetKit):
    def test_letters(self):
        sheet = Sheet()
        self.assertEqual(sheet.letters, ())
        self.assertIsNone(sheet.add("y", True))
        self.assertIsNone(sheet.add("x"))
        self.assertIsNone(sheet.add(full=False, name="a_9"))
        self.assertIsNone(sheet.add("b", full=True))
        self.assertIs(type(sheet.letters), tuple)
        self.assertEqual([(letter.name, letter.full) for letter in sheet.letters],
                         [("a_9", False), ("b", True), ("x", False), ("y", True)])
        self.assertEqual(sheet["x"], X)
        self.assertEqual(sheet["y"], Y)
        self.assertEqual((len(sheet), sheet.changes, sheet.names, sheet.claims), (0, 4, (), ()))
        self.assertIs("x" in sheet, True)
        self.assertIs("z" in sheet, False)

    def test_errors(self):
        sheet = sheet_of("x", f="x >> 1")
        for name in NO_NAMES:
            with self.subTest(name=repr(name)):
                self.given(sheet, InvalidName, name, sheet.add, name)
                self.given(sheet, InvalidName, name, sheet.add, name, "other")
                self.given(sheet, InvalidName, name, sheet.add, full=True, name=name)
        for full in [0, 1, None, "True", [], (), ODD, Same(), Ratio(1), X]:
            with self.subTest(full=repr(full)):
                self.given(sheet, InvalidTruth, full, sheet.add, "z", full)
                self.given(sheet, InvalidTruth, full, sheet.add, "x", full)
                self.given(sheet, InvalidTruth, full, sheet.add, name="f", full=full)
        for full in (True, False):
            self.given(sheet, Taken, "x", sheet.add, "x", full)
            self.given(sheet, Taken, "f", sheet.add, "f", full)

    def test_letters_after_others(self):
        sheet = sheet_of("x", f="x + 1")
        sheet.add("z", True)
        sheet["g"] = "f + z"
        self.assertEqual(str(sheet["g"]), "((x + 1) + z)")
        self.assertIs(sheet.letters[1].full, True)


class DefineTest(SheetKit):
    def test_definitions(self):
        sheet = sheet_of("x", "y*")
        self.assertIsNone(sheet.define("step", "x - x >> 1"))
        self.assertIsNone(sheet.define(text="step|y", name="whole"))
        sheet["a"] = " whole &(whole >> 1 ) "
        self.assertEqual(sheet.names, ("a", "step", "whole"))
        self.assertIs(type(sheet.names), tuple)
        self.assertEqual(str(sheet["step"]), "((x - x) >> 1)")
        self.assertEqual(str(sheet["a"]), "((((x - x) >> 1) | y) & ((((x - x) >> 1) | y) >> 1))")
        self.assertEqual([sheet.text(name) for name in sheet.names], [" whole &(whole >> 1 ) ", "x - x >> 1", "step|y"])
        self.assertEqual(sheet.text(name="step"), "x - x >> 1")
        self.assertEqual((len(sheet), sheet.changes), (3, 5))
        self.assertIs("a" in sheet, True)

    def test_a_definition_stands_for_its_formula(self):
        """It does not stand for its text: there are brackets around it, as it were."""
        sheet = sheet_of("x", "z", f="x - z", g="x >> 1", h="x | z")
        for text, whole in [
            ("f - f", "((x - z) - (x - z))"), ("2 * f", "(2 * (x - z))"), ("-g", "(-1 * (x >> 1))"), ("h & x", "((x | z) & x)"),
            ("f >> 1", "((x - z) >> 1)"), ("g + 1", "((x >> 1) + 1)"), ("since(f, g)", "since((x - z), (x >> 1))"), ("f", "(x - z)"),
            ("x", "x"), ("clock", "clock"), ("7", "7"), ("total(h, 3)", "total((x | z), 3)"),
        ]:
            sheet["all"] = text
            self.assertEqual(str(sheet["all"]), whole)
            self.assertEqual(sheet["all"], put(read(text, tuple(map(Formula.letter, names(text)))), {n: sheet[n] for n in "xzfgh"}))

    def test_defined_anew(self):
        sheet = sheet_of("x", "z", f="x + 1", g="f >> 1", h="g | f")
        sheet["f"] = "z"
        self.assertEqual([str(sheet[name]) for name in "fgh"], ["z", "(z >> 1)", "((z >> 1) | z)"])
        sheet["g"] = "x"
        self.assertEqual([str(sheet[name]) for name in "fgh"], ["z", "x", "(x | z)"])
        sheet["f"] = "x - 2"
        self.assertEqual([str(sheet[name]) for name in "fgh"], ["(x - 2)", "x", "(x | (x - 2))"])
        self.assertEqual(sheet.changes, 8)
        sheet["f"] = "x - 2"
        self.assertEqual(sheet.changes, 9)
        self.assertEqual((sheet.names, len(sheet)), (("f", "g", "h"), 3))

    def test_names(self):
        sheet = sheet_of("x", f="x")
        for name in NO_NAMES:
            with self.subTest(name=repr(name)):
                self.given(sheet, InvalidName, name, sheet.define, name, "x")
                self.given(sheet, InvalidName, name, sheet.define, name, 5)
                self.given(sheet, InvalidName, name, sheet.__setitem__, name, "x")
                self.given(sheet, InvalidName, name, sheet.define, text="((", name=name)
        for text in ("x", "((", 5, None, "x + q", "total(x, 1)"):
            self.given(sheet, Taken, "x", sheet.define, "x", text)
            self.given(sheet, Taken, "x", sheet.__setitem__, "x", text)

    def test_texts(self):
        sheet = sheet_of("x", f="x")
        for text in NO_TEXTS:
            for name in ("f", "g"):
                with self.subTest(text=repr(text)):
                    self.given(sheet, InvalidText, text, sheet.define, name, text)
                    self.given(sheet, InvalidText, text, sheet.define, text=text, name=name)
        for text, place in [("", 0), ("x +", 3), ("x + + x", 4), ("f q", 2), ("q & )", 4), ("x << q", 5), ("g g", 2), ("x/2", 0)]:
            self.kept(sheet, TextError, {"place": place}, sheet.define, "g", text)
            self.kept(sheet, TextError, {"place": place}, sheet.define, "f", text)

    def test_unknown_names(self):
        sheet = sheet_of("x", f="x", g="f")
        for name, text, first in [
            ("h", "q", "q"), ("h", "x + q2 - q1", "q2"), ("h", "h + q", "q"), ("h", "q + h", "q"), ("f", "f + g + q", "q"),
            ("f", "total(q, 1)", "q"), ("g", "g & x >> 9 | zz", "zz"),
        ]:
            self.given(sheet, UnknownName, first, sheet.define, name, text)

    def test_circles(self):
        sheet = sheet_of("x", a="x", b="a + 1", c="b | a", d="x")
        for name, text in [
            ("e", "e"), ("e", "x + e"), ("a", "a"), ("a", "b"), ("a", "c"), ("a", "d + c"), ("b", "c"), ("b", "x - c"), ("b", "b"),
            ("a", "total(b, 1)"), ("a", "b >> 9"), ("d", "d >> 1"),
        ]:
            with self.subTest(name=name, text=text):
                self.given(sheet, Circular, name, sheet.define, name, text)
        sheet["a"] = "d"
        self.given(sheet, Circular, "d", sheet.define, "d", "c")
        sheet["b"] = "x"
        sheet["a"] = "b"
        self.given(sheet, Circular, "b", sheet.define, "b", "a")

    def test_what_cannot_be_made(self):
        sheet = sheet_of("x", f="x", b="f << 4", a="b << 2", c="x")
        self.not_made(sheet, "g", InvalidCount, {"given": 1}, sheet.define, "g", "total(x, 1)")
        self.not_made(sheet, "g", InvalidCount, {"given": 9}, sheet.define, "g", "x >> 9 | (x << 8) << 8")
        self.not_made(sheet, "g", TooLarge, {"limit": 8}, sheet.define, "g", "(x << 8) << 8 | x >> 9")
        self.not_made(sheet, "c", InvalidCount, {"given": 0}, sheet.define, "c", "head(x, 0)")
        self.not_made(sheet, "c", TooLarge, {"limit": 8}, sheet.define, "c", "a << 3")
        # The first one is told, those that others need ahead of these.
        self.not_made(sheet, "a", TooLarge, {"limit": 8}, sheet.define, "f", "x << 4")
        self.not_made(sheet, "b", TooLarge, {"limit": 8}, sheet.define, "f", "x << 5")
        self.not_made(sheet, "f", InvalidCount, {"given": 9}, sheet.define, "f", "x << 9")
        sheet["f"] = "x << 2"
        self.assertEqual(sheet["a"].lead, 8)

    def test_the_order_of_making(self):
        """Ascending by the names; what is needed stands ahead, in the order of the names in the text."""
        deep = "x"
        for _ in range(9):
            deep = f"filled({deep})"
        ten = "p"
        for _ in range(10):
            ten = f"filled({ten})"
        texts = {"p": "x", "m": ten, "b": ten, "z": ten, "a": "z + m"}
        for changed, first in [({}, "z"), ({"a": "m + z"}, "m"), ({"a": "b + m + z"}, "b"), ({"a": "p"}, "b"),
                               ({"a": "(z & m) | b"}, "z")]:
            sheet = sheet_of("x", **{**texts, **changed})
            with self.subTest(changed=changed):
                self.not_made(sheet, first, TooLarge, {"limit": 20}, sheet.define, "p", f"total({deep})")
                sheet["p"] = "filled(filled(x))"

    def test_sizes(self):
        sheet = sheet_of("x", a="x + x", b="a + a", c="b + b", d="c + c", e="d + c")
        self.assertEqual([sheet[name].size for name in "abcde"], [3, 7, 15, 31, 47])
        self.not_made(sheet, "f", TooLarge, {"limit": 60}, sheet.define, "f", "d + d")
        self.not_made(sheet, "d", TooLarge, {"limit": 60}, sheet.define, "a", "x + x + x + x")
        self.not_made(sheet, "e", TooLarge, {"limit": 60}, sheet.define, "a", "(x + x) >> 1 >> 1")

    def test_many_definitions(self):
        sheet = sheet_of("x", "y*")
        for at in range(60):
            sheet[f"d{at}"] = f"d{at - 1} & y" if at % 19 else "x"
        self.assertEqual(len(sheet), 60)
        self.assertEqual(sheet["d18"].levels, 19)
        sheet["d0"] = "y >> 1"
        self.assertEqual(sheet["d18"].levels, 20)
        self.not_made(sheet, "d18", TooLarge, {"limit": 20}, sheet.define, "d0", "(y >> 1) >> 1")


CLAIMS = [
    (("same", "x", "x & x"), None),
    (("same", "f", "x >> 1"), None),
    (("same", "f", "g"), lambda f, g: parting(f, g)),
    (("same", "x", "2 * x"), lambda f, g: parting(X, 2 * X)),
    (("within", "head(x, 2)", "x"), None),
    (("within", "x", "x | f"), None),
    (("within", "x", "f"), lambda f, g: breach(X, f)),
    (("ahead", "g", 1), None),
    (("ahead", "g", 0), lambda f, g: leak(g, 0)),
    (("ahead", "g", 60), None),
    (("ahead", "f", 0), None),
    (("back", "f", 1), None),
    (("back", "f", 0), lambda f, g: trace(f, 0)),
    (("back", "total(x)", 60), lambda f, g: trace(X.total(), 60)),
    (("back", "x", 0), None),
    (("full", "gaps(f)"), None),
    (("full", "f"), lambda f, g: gap(f)),
    (("full", "f | y"), None),
]


class ClaimTest(SheetKit):
    def test_each_form(self):
        sheet = sheet_of("x", "y*", f="x >> 1", g="x - x << 1")
        kept = []
        for claim, shown in CLAIMS:
            with self.subTest(claim=claim):
                if shown is None:
                    self.assertIsNone(sheet.claim(claim))
                    kept.append(claim)
                    self.assertIs(sheet.claims[-1], claim)
                else:
                    self.broken(sheet, len(kept), shown(sheet["f"], sheet["g"]), sheet.claim, claim)
                    self.broken(sheet, len(kept), shown(sheet["f"], sheet["g"]), sheet.claim, claim=claim)
        self.assertEqual(sheet.claims, tuple(kept))
        self.assertIs(type(sheet.claims), tuple)
        self.assertEqual(sheet.changes, 4 + len(kept))

    def test_kinds_of_what_is_shown(self):
        sheet = sheet_of("x", f="x")
        for claim, kind in [
            (("same", "x", "0"), Parting), (("within", "x", "0"), Parting), (("ahead", "x << 1", 0), Leak),
            (("back", "x >> 1", 0), Trace), (("full", "x"), tuple),
        ]:
            with self.assertRaises(Broken) as context:
                sheet.claim(claim)
            self.assertIs(type(context.exception.shown), kind)
            self.assertEqual(context.exception.index, 0)

    def test_forms(self):
        sheet = sheet_of("x", f="x")
        sheet.claim(("full", "gaps(x)"))
        wrong = [
            *STRANGE, 0, "same", Ratio(1), X, {}, Series(()), ["same", "x", "x"], ("same",), ("same", "x"), ("same", "x", "x", "x"),
            ("full",), ("full", "x", "x"), ("ahead", "x"), ("ahead", 0), ("ahead", 0, "x"), ("back", "x", 0, 0), ("unlike", "x", "x"),
            ("Same", "x", "x"), ("", "x", "x"), (None, "x", "x"), (b"same", "x", "x"), (Same(), "x", "x"), (ODD, "x"), (("same",), "x"),
            (["full"], "x"), ("full", ("x",), 0), ("x", "x", "x"), ("same", ("x", "x")),
        ]
        for given in wrong:
            with self.subTest(given=repr(given)):
                self.given(sheet, InvalidClaim, given, sheet.claim, given)
                self.given(sheet, InvalidClaim, given, sheet.claim, claim=given)
        for word in ("ahead", "back"):
            for number in [*NO_INTEGERS, -1, 61, FORTY, -FORTY, X]:
                for text in ("x", "((", "q", 5):
                    given = (word, text, number)
                    with self.subTest(given=repr(given)):
                        self.given(sheet, InvalidClaim, given, sheet.claim, given)
            sheet.claim((word, "x", 0))
            sheet.claim((word, "x", 60))

    def test_texts(self):
        """First for T, and behind it for U."""
        sheet = sheet_of("x", f="x")
        for text in NO_TEXTS:
            with self.subTest(text=repr(text)):
                for claim in [("full", text), ("same", text, "x"), ("within", "x", text), ("ahead", text, 0), ("back", text, 1),
                              ("same", text, "(("), ("same", text, text), ("same", "x", text)]:
                    self.given(sheet, InvalidText, text, sheet.claim, claim)
        for claim, place in [
            (("full", ""), 0), (("same", "x +", 5), 3), (("same", "x", "x )"), 2), (("ahead", "q q", 0), 2), (("within", "(", "q"), 1),
            (("same", "x & q +", "q"), 7),
        ]:
            self.kept(sheet, TextError, {"place": place}, sheet.claim, claim)
        for claim, name in [
            (("full", "q"), "q"), (("same", "q1", "q2"), "q1"), (("same", "q", 5), "q"), (("same", "q", "(("), "q"),
            (("within", "x", "f - r - q"), "r"), (("ahead", "total(q, 1)", 0), "q"), (("back", "x + same", 0), "same"),
        ]:
            self.given(sheet, UnknownName, name, sheet.claim, claim)

    def test_what_cannot_be_made_or_asked(self):
        sheet = sheet_of("x", f="x")
        sheet.claim(("full", "gaps(f)"))
        self.not_made(sheet, 1, InvalidCount, {"given": 9}, sheet.claim, ("full", "x >> 9"))
        self.not_made(sheet, 1, InvalidCount, {"given": 1}, sheet.claim, ("same", "total(x, 1)", "x << 9"))
        self.not_made(sheet, 1, TooLarge, {"limit": 8}, sheet.claim, ("same", "x << 8 << 1 & total(x, 1)", "x"))
        self.not_made(sheet, 1, TooLarge, {"limit": 8}, sheet.claim, ("same", "x", "x << 8 << 1"))
        heavy = "moving(moving(moving(x, 7, 1), 7, 1), 7, 1)"
        for claim in [("full", heavy), ("same", heavy, "x"), ("within", "x", heavy), ("ahead", heavy, 3), ("back", heavy, 60)]:
            self.not_made(sheet, 1, TooHeavy, {"limit": 65536}, sheet.claim, claim)
        self.not_made(sheet, 1, TooHeavy, {"limit": 65536}, sheet.claim, ("ahead", "moving(moving(x, 7, 1), 7, 1)", 0))
        wide = "clock"
        for _ in range(15):
            wide = f"total({wide})"
        self.not_made(sheet, 1, TooHeavy, {"limit": 64}, sheet.claim, ("back", f"{wide} + {wide} + clock", 3))

    def test_claims_are_asked_in_their_order(self):
        """First all definitions, then the formulas of all claims, then the claims."""
        heavy = "moving(moving(moving(x, 7, 1), 7, 1), 7, 1)"
        sheet = sheet_of("x", f="x", g="f")
        for claim in [("same", "f", "g"), ("back", "f", 3), ("full", "gaps(g << 8)"), ("within", "x & f", "f | x"), ("same", "f", "x")]:
            sheet.claim(claim)
        self.broken(sheet, 1, trace(X >> 4, 3), sheet.define, "f", "x >> 4")
        self.broken(sheet, 3, breach(X & (X >> 3), (X >> 3) | X), sheet.define, "f", "x >> 3")
        self.broken(sheet, 4, parting(X | (X >> 1), X), sheet.define, "f", "x | x >> 1")
        self.not_made(sheet, 2, TooLarge, {"limit": 8}, sheet.define, "g", "x << 1")
        self.not_made(sheet, 2, TooLarge, {"limit": 8}, sheet.define, "f", "x << 1")
        self.not_made(sheet, 0, TooHeavy, {"limit": 65536}, sheet.define, "f", heavy)
        self.not_made(sheet, "g", TooLarge, {"limit": 20}, sheet.define, "g", "filled(" * 20 + "x" + ")" * 20)
        self.broken(sheet, 0, parting(X, X + 1), sheet.define, "g", "f + 1")
        sheet.lift(0)
        sheet["g"] = "f + 1"
        self.broken(sheet, 2, breach(X & (3 * X), (3 * X) | X), sheet.define, "f", "3 * x")
        sheet.lift(2)
        self.broken(sheet, 2, parting(3 * X, X), sheet.define, "f", "3 * x")

    def test_the_same_claim_twice(self):
        sheet = sheet_of("x")
        sheet.claim(("full", "gaps(x)"))
        sheet.claim(("full", "gaps(x)"))
        self.assertEqual((len(sheet.claims), sheet.changes), (2, 3))

    def test_sixty_claims(self):
        sheet = sheet_of("x", f="x >> 1")
        for many in range(60):
            sheet.claim(("back", "f", 1 + many))
        sheet["f"] = "x"
        self.broken(sheet, 0, trace(X >> 2, 1), sheet.define, "f", "x >> 2")
        self.assertEqual(len(sheet.claims), 60)


class DropTest(SheetKit):
    def test_drop_and_lift(self):
        sheet = sheet_of("x", "z", f="x", g="f + z")
        sheet.claim(("within", "g", "g | z"))
        sheet.claim(("full", "gaps(f)"))
        self.kept(sheet, InUse, {"user": "f"}, sheet.drop, "x")
        self.kept(sheet, InUse, {"user": "g"}, sheet.drop, "f")
        self.kept(sheet, InUse, {"user": "g"}, sheet.drop, name="z")
        self.kept(sheet, InUse, {"user": None}, sheet.drop, "g")
        self.assertIsNone(sheet.lift(0))
        self.assertEqual(sheet.claims, (("full", "gaps(f)"),))
        self.assertIsNone(sheet.drop("g"))
        self.kept(sheet, InUse, {"user": None}, sheet.drop, "f")
        self.assertIsNone(sheet.drop(name="z"))
        self.assertIsNone(sheet.lift(index=0))
        sheet.drop("f")
        sheet.drop("x")
        self.assertEqual((sheet.letters, sheet.names, sheet.claims, sheet.changes), ((), (), (), 12))
        for name in ("x", "z", "f", "g"):
            self.assertIs(name in sheet, False)

    def test_the_least_user(self):
        sheet = sheet_of("x", c="x", b="x & c", d="b")
        self.kept(sheet, InUse, {"user": "b"}, sheet.drop, "x")
        sheet.claim(("full", "gaps(x)"))
        self.kept(sheet, InUse, {"user": "b"}, sheet.drop, "c")
        sheet.claim(("same", "0", "0 & d - d | 0"))
        self.kept(sheet, InUse, {"user": None}, sheet.drop, "d")

    def test_a_claim_with_two_texts(self):
        sheet = sheet_of("x", "z")
        sheet.claim(("within", "x & z", "x"))
        sheet.claim(("same", "0", "0 * gaps(z)"))
        sheet.lift(0)
        sheet.drop("x")
        self.kept(sheet, InUse, {"user": None}, sheet.drop, "z")

    def test_unknown(self):
        sheet = sheet_of("x", f="x")
        for name in [*NO_NAMES, "q", "xx"]:
            with self.subTest(name=repr(name)):
                self.given(sheet, UnknownName, name, sheet.drop, name)
                self.given(sheet, UnknownName, name, sheet.drop, name=name)
                self.given(sheet, UnknownName, name, sheet.text, name)
                self.given(sheet, UnknownName, name, sheet.text, name=name)
                self.given(sheet, UnknownName, name, sheet.__getitem__, name)
                self.assertIs(name in sheet, False)
        self.given(sheet, UnknownName, "x", sheet.text, "x")

    def test_index(self):
        sheet = sheet_of("x")
        self.given(sheet, InvalidIndex, 0, sheet.lift, 0)
        sheet.claim(("full", "gaps(x)"))
        sheet.claim(("full", "clock"))
        for index in [*NO_INTEGERS, -1, 2, FORTY, -FORTY, X]:
            with self.subTest(index=repr(index)):
                self.given(sheet, InvalidIndex, index, sheet.lift, index)
                self.given(sheet, InvalidIndex, index, sheet.lift, index=index)
        sheet.lift(1)
        self.given(sheet, InvalidIndex, 1, sheet.lift, 1)
        self.assertEqual(sheet.claims, (("full", "gaps(x)"),))

    def test_names_can_come_again(self):
        sheet = sheet_of("x", f="x")
        sheet.drop("f")
        sheet.drop("x")
        sheet.add("f", True)
        sheet["x"] = "f >> 1"
        self.assertEqual((str(sheet["x"]), sheet["f"].full), ("(f >> 1)", True))


class UndoTest(SheetKit):
    def build(self):
        """A sheet, and what it held ahead of each of its changes."""
        sheet = Sheet()
        steps = [
            lambda: sheet.add("x"), lambda: sheet.define("f", "x >> 1"), lambda: sheet.claim(("back", "f", 1)),
            lambda: sheet.add("y", True), lambda: sheet.define("g", "f | y"), lambda: sheet.claim(("full", "g")),
            lambda: sheet.define("f", "x"), lambda: sheet.claim(("same", "g", "x | y")), lambda: sheet.lift(1),
            lambda: sheet.define("g", "x | y"), lambda: sheet.lift(0), lambda: sheet.drop("f"), lambda: sheet.define("f", "clock"),
            lambda: sheet.define("f", "clock"),
        ]
        before = []
        for step in steps:
            before.append(held(sheet))
            step()
        return sheet, before

    def test_step_by_step(self):
        sheet, before = self.build()
        self.assertEqual(sheet.changes, len(before))
        while before:
            self.assertIsNone(sheet.undo())
            self.assertEqual(held(sheet), before.pop())
        self.assertEqual((sheet.letters, sheet.names, sheet.claims, sheet.changes), ((), (), (), 0))
        for _ in range(2):
            with self.assertRaises(NothingToUndo) as context:
                sheet.undo()
            self.assertEqual(vars(context.exception), {})
        sheet.add("x")
        self.assertEqual(sheet.changes, 1)

    def test_amid_other_changes(self):
        sheet = sheet_of("x", f="x")
        sheet["f"] = "x >> 1"
        sheet.undo()
        self.assertEqual((str(sheet["f"]), sheet.changes), ("x", 2))
        sheet["f"] = "x >> 2"
        sheet["g"] = "f"
        self.assertEqual(sheet.changes, 4)
        sheet.undo()
        sheet.undo()
        self.assertEqual((str(sheet["f"]), sheet.names, sheet.changes), ("x", ("f",), 2))
        sheet.undo()
        sheet.undo()
        self.assertEqual(sheet.letters, ())

    def test_refused_changes_are_none(self):
        sheet = sheet_of("x", f="x")
        for action in [lambda: sheet.add("x"), lambda: sheet.define("f", "f"), lambda: sheet.drop("x"), lambda: sheet.lift(0)]:
            with self.assertRaises((GivenError, NameProblem)):
                action()
        self.assertEqual(sheet.changes, 2)
        sheet.undo()
        self.assertEqual(sheet.names, ())

    def test_claims_hold_behind_undo(self):
        sheet = sheet_of("x", f="x")
        sheet.claim(("back", "f", 0))
        sheet.lift(0)
        sheet["f"] = "x >> 1"
        sheet.undo()
        sheet.undo()
        self.broken(sheet, 0, trace(X >> 1, 0), sheet.define, "f", "x >> 1")


class Stop(BaseException):
    """An exception that is none of Python's plain ones."""


class TrialTest(SheetKit):
    def test_without_an_exception(self):
        sheet = sheet_of("x")
        with sheet.trial() as inner:
            self.assertIs(inner, sheet)
            sheet["f"] = "x"
            inner.claim(("full", "gaps(f)"))
        self.assertEqual((sheet.changes, sheet.names, len(sheet.claims)), (3, ("f",), 1))
        with sheet.trial():
            pass
        self.assertEqual(sheet.changes, 3)

    def test_with_exceptions(self):
        for error in [ValueError("x"), KeyError(5), Stop(), KeyboardInterrupt(), SystemExit(3), TextError(3), StopIteration(1)]:
            sheet = sheet_of("x", f="x")
            before = held(sheet)
            with self.subTest(error=repr(error)):
                with self.assertRaises(type(error)) as context:
                    with sheet.trial() as inner:
                        inner["f"] = "x >> 1"
                        inner.add("z")
                        inner.claim(("back", "f", 1))
                        raise error
                self.assertIs(context.exception, error)
                self.assertEqual(held(sheet), before)

    def test_errors_of_the_package(self):
        sheet = sheet_of("x", f="x")
        sheet.claim(("back", "f", 0))
        before = held(sheet)
        with self.assertRaises(Broken):
            with sheet.trial():
                sheet["g"] = "f"
                sheet["f"] = "x >> 1"
        self.assertEqual(held(sheet), before)
        with self.assertRaises(Taken):
            with sheet.trial():
                sheet["g"] = "f"
                sheet.add("g")
        self.assertEqual(held(sheet), before)

    def test_errors_that_are_caught_inside(self):
        sheet = sheet_of("x")
        with sheet.trial():
            sheet["f"] = "x"
            with self.assertRaises(Taken):
                sheet.add("f")
        self.assertEqual((sheet.changes, sheet.names), (2, ("f",)))

    def test_undone_inside(self):
        sheet = sheet_of("x", f="x", g="f")
        before = held(sheet)
        with self.assertRaises(NothingToUndo):
            with sheet.trial():
                while True:
                    sheet.undo()
        self.assertEqual(held(sheet), before)
        sheet.undo()
        self.assertEqual(sheet.names, ("f",))

    def test_within_one_another(self):
        sheet = sheet_of("x")
        with sheet.trial():
            sheet["a"] = "x"
            with self.assertRaises(ZeroDivisionError):
                with sheet.trial():
                    sheet["b"] = "x"
                    with sheet.trial():
                        sheet["c"] = "x"
                    self.assertEqual(sheet.names, ("a", "b", "c"))
                    raise ZeroDivisionError()
            self.assertEqual(sheet.names, ("a",))
            sheet["d"] = "a"
        self.assertEqual((sheet.names, sheet.changes), (("a", "d"), 3))
        with self.assertRaises(KeyError):
            with sheet.trial():
                sheet["e"] = "a"
                with sheet.trial():
                    sheet["f"] = "e"
                raise KeyError()
        self.assertEqual((sheet.names, sheet.changes), (("a", "d"), 3))

    def test_one_trial_several_times(self):
        sheet = sheet_of("x")
        trial = sheet.trial()
        sheet["a"] = "x"
        with self.assertRaises(KeyError):
            with trial:
                sheet["b"] = "x"
                raise KeyError()
        self.assertEqual(sheet.names, ("a",))
        with trial:
            sheet["c"] = "x"
        self.assertEqual(sheet.names, ("a", "c"))
        with self.assertRaises(KeyError):
            with trial:
                sheet["d"] = "x"
                with self.assertRaises(KeyError):
                    with trial:
                        sheet["e"] = "x"
                        raise KeyError()
                self.assertEqual(sheet.names, ("a", "c", "d"))
                raise KeyError()
        self.assertEqual(sheet.names, ("a", "c"))

    def test_two_sheets(self):
        one, two = sheet_of("x"), sheet_of("x")
        with self.assertRaises(KeyError):
            with one.trial(), two.trial():
                one["f"] = "x"
                two["f"] = "x"
                raise KeyError()
        self.assertEqual((one.changes, two.changes), (1, 1))

    def test_tried(self):
        sheet = sheet_of("x")
        self.assertEqual(sheet.tried(lambda inner: (inner, inner.add("z"), 5)), (sheet, None, 5))
        self.assertIsNone(sheet.tried(action=lambda inner: inner.define("f", "z")))
        self.assertEqual(sheet.changes, 3)
        before = held(sheet)

        def fails(inner):
            inner["g"] = "f"
            inner.undo()
            inner.undo()
            raise IndexError(inner.changes)

        with self.assertRaises(IndexError) as context:
            sheet.tried(fails)
        self.assertEqual(context.exception.args, (2,))
        self.assertEqual(held(sheet), before)
        with self.assertRaises(UnknownName):
            sheet.tried(lambda inner: [inner.define("g", "f"), inner.tried(lambda again: again.define("h", "g")), inner["q"]])
        self.assertEqual(held(sheet), before)
        self.assertEqual(sheet.tried(len), 1)


class PlainSheet:
    """A sheet as point 21 tells it, in which everything is made and asked anew at each change."""

    def __init__(self):
        self.state = ({}, {}, ())
        self.past = []

    def change(self, letters, texts, claims):
        self.ask(letters, texts, claims)
        self.past.append(self.state)
        self.state = (letters, texts, claims)

    def made(self, text, known):
        """Reads the text with letters for all names, and puts the formulas in."""
        letters = tuple(Formula.letter(name) for name in names(text))
        return put(read(text, letters), known)

    def ask(self, letters, texts, claims):
        known = {name: Formula.letter(name, full) for name, full in letters.items()}

        def make(name):
            if name not in known:
                for needed in names(texts[name]):
                    make(needed)
                try:
                    known[name] = self.made(texts[name], known)
                except (InvalidCount, TooLarge) as error:
                    raise NotMade(name) from error

        for name in sorted(texts):
            make(name)
        formulas = []
        for index, claim in enumerate(claims):
            try:
                formulas.append([self.made(text, known) for text in claim[1:] if isinstance(text, str)])
            except (InvalidCount, TooLarge) as error:
                raise NotMade(index) from error
        for index, claim in enumerate(claims):
            counts = [part for part in claim[1:] if not isinstance(part, str)]
            action = {"same": parting, "within": breach, "ahead": leak, "back": trace, "full": gap}[claim[0]]
            try:
                shown = action(*formulas[index], *counts)
            except TooHeavy as error:
                raise NotMade(index) from error
            if shown is not None:
                raise Broken(index, shown)
        return known

    def needed(self, texts, name):
        """All names that this one needs."""
        found, waiting = set(), list(names(texts[name]))
        while waiting:
            inner = waiting.pop()
            if inner not in found:
                found.add(inner)
                waiting += names(texts[inner]) if inner in texts else ()
        return found

    def add(self, name, full):
        letters, texts, claims = self.state
        if name in letters or name in texts:
            raise Taken(name)
        self.change({**letters, name: full}, texts, claims)

    def define(self, name, text):
        letters, texts, claims = self.state
        if name in letters:
            raise Taken(name)
        for other in names(text):
            if other not in letters and other not in texts and other != name:
                raise UnknownName(other)
        texts = {**texts, name: text}
        if name in self.needed(texts, name):
            raise Circular(name)
        self.change(letters, texts, claims)

    def drop(self, name):
        letters, texts, claims = self.state
        if name not in letters and name not in texts:
            raise UnknownName(name)
        for user in sorted(texts):
            if name in names(texts[user]):
                raise InUse(user)
        for claim in claims:
            if any(name in names(text) for text in claim[1:] if isinstance(text, str)):
                raise InUse(None)
        without = [{other: worth for other, worth in table.items() if other != name} for table in (letters, texts)]
        self.change(*without, claims)

    def claim(self, claim):
        letters, texts, claims = self.state
        for text in claim[1:]:
            for name in names(text) if isinstance(text, str) else ():
                if name not in letters and name not in texts:
                    raise UnknownName(name)
        self.change(letters, texts, claims + (claim,))

    def lift(self, index):
        letters, texts, claims = self.state
        if not 0 <= index < len(claims):
            raise InvalidIndex(index)
        self.change(letters, texts, claims[:index] + claims[index + 1:])

    def undo(self):
        if not self.past:
            raise NothingToUndo()
        self.state = self.past.pop()


class RandomTest(Kit):
    TEXTS = [
        "{0}", "{0} + {1}", "{0} | {1}", "{0} & {1}", "2 * {0} - {1}", "{0} >> 1", "{0} << 1", "total({0})", "filled({0})",
        "moving({0}, 3, 2)", "gaps({0})", "since({0}, {1})", "head({0}, 3)", "{0} << 5", "total({0}, 1)", "{0} >> 9",
        "moving({0}, 7, 1)", "clock", "0 * {0}", "{0} - {0}", "season({0}, 3, 1) | {1}",
    ]

    def outcome(self, action):
        try:
            return "done", action()
        except (GivenError, NameProblem, AnswerError) as error:
            cause = error.__cause__
            return type(error), vars(error), cause and (type(cause), vars(cause))

    def change(self, source):
        """A drawn change: the name of a method, and arguments."""
        some = ["a", "b", "c", "d", "x", "y"]

        def text():
            return source.choice(self.TEXTS).format(source.choice(some), source.choice(some))

        kind = source.choice(["add", "define", "define", "define", "define", "define", "drop", "claim", "claim", "lift", "undo"])
        if kind == "add":
            return kind, (source.choice(["x", "y", "a"]), source.random() < 0.5)
        if kind == "define":
            return kind, (source.choice("abcd"), text())
        if kind == "claim":
            one = text()
            word = source.choice(["same", "within", "ahead", "back", "full"])
            two = source.choice([text(), f"{one} & {one}", f"filled({one})"])
            return kind, ({"same": (word, one, two), "within": (word, one, two), "full": (word, one)}.get(
                word, (word, one, source.randint(0, 5))),)
        if kind == "drop":
            return kind, (source.choice(some),)
        return kind, (source.randint(-1, 3),) if kind == "lift" else ()

    def test_random_changes(self):
        source = random.Random(131)
        met = {}
        for _ in range(120):
            sheet, plain = Sheet(), PlainSheet()
            for kind, arguments in [("add", ("x", False)), ("add", ("y", True))]:
                getattr(sheet, kind)(*arguments)
                getattr(plain, kind)(*arguments)
            for _ in range(40):
                kind, arguments = self.change(source)
                found = self.outcome(lambda: getattr(sheet, kind)(*arguments))
                wanted = self.outcome(lambda: getattr(plain, kind)(*arguments))
                met[found[0]] = met.get(found[0], 0) + 1
                with self.subTest(kind=kind, arguments=arguments, state=plain.state):
                    self.assertEqual(found, wanted)
                    letters, texts, claims = plain.state
                    self.assertEqual({letter.name: letter.full for letter in sheet.letters}, letters)
                    self.assertEqual({name: sheet.text(name) for name in sheet.names}, texts)
                    self.assertEqual((sheet.claims, sheet.changes), (claims, len(plain.past)))
            known = plain.ask(*plain.state)
            for name, formula in known.items():
                self.assertEqual(sheet[name], formula)
        for kind in ("done", Taken, UnknownName, Circular, NotMade, Broken, InUse, InvalidIndex):
            self.assertGreater(met.get(kind, 0), 15, kind)


class ObjectTest(SheetKit):
    def test_length_and_truth(self):
        sheet = Sheet()
        self.assertEqual(len(sheet), 0)
        self.assertIs(bool(sheet), True)
        sheet.add("x")
        self.assertEqual((len(sheet), bool(sheet)), (0, True))
        sheet["f"] = "x"
        self.assertEqual((len(sheet), bool(sheet)), (1, True))

    def test_in(self):
        sheet = sheet_of("x", f="x")
        for value in ["x", "f"]:
            self.assertIs(value in sheet, True)
            self.assertIs(value not in sheet, False)
        for value in [*NO_NAMES, "q", X, sheet, b"x", ("x",), ["x"], Same(), ODD, 0]:
            with self.subTest(value=repr(value)):
                self.assertIs(value in sheet, False)

    def test_equality(self):
        sheet = Sheet()
        self.assertIs(sheet == sheet, True)
        for other in (Sheet(), None, 0, {}, X):
            self.assertIs(sheet == other, False)
            self.assertIs(sheet != other, True)

    def test_nothing_can_be_set(self):
        sheet = sheet_of("x")
        for name in ("letters", "names", "claims", "changes"):
            with self.assertRaises(AttributeError):
                setattr(sheet, name, ())

    def test_what_was_returned_stays(self):
        sheet = sheet_of("x", f="x")
        sheet.claim(("full", "gaps(f)"))
        before = sheet.letters, sheet.names, sheet.claims, sheet["f"]
        sheet.add("z")
        sheet["f"] = "z"
        sheet["g"] = "f"
        sheet.lift(0)
        self.assertEqual(before, ((X,), ("f",), (("full", "gaps(f)"),), X))

    def test_two_sheets(self):
        one, two = sheet_of("x", f="x"), sheet_of("x")
        self.assertEqual((one.names, two.names), (("f",), ()))
        two["f"] = "x >> 1"
        self.assertEqual((str(one["f"]), str(two["f"])), ("x", "(x >> 1)"))

    def test_formulas_of_a_sheet_are_formulas(self):
        sheet = sheet_of("y*", f="total(y)")
        self.assertEqual(Undoer(sheet["f"]).feed(3), 3)
        self.assertEqual(sheet["f"] + sheet["y"], Y.total() + Y)

    def test_defined_here(self):
        self.assertEqual(Sheet.__module__, module.__name__)
        for name in (
            "__init__ __getitem__ __setitem__ __contains__ __len__ __bool__ add define drop claim lift undo letters names"
            " claims changes text trial tried"
        ).split():
            self.assertIn(name, vars(Sheet))

    def test_example_of_the_document(self):
        sheet = Sheet()
        sheet.add("x")
        sheet["step"] = "x - x >> 1"
        sheet["mean"] = "average(step, 5, 2)"
        sheet.claim(("ahead", "mean", 0))
        sheet.claim(("back", "mean + 0 * step", 5))
        found = [str(sheet["mean"]), sheet.names, sheet.changes, "x" in sheet, len(sheet), sheet.text("step")]
        self.assertEqual(found, ["average(((x - x) >> 1), 5, 2)", ("mean", "step"), 5, True, 2, "x - x >> 1"])
        with self.assertRaises(Broken) as context:
            sheet.define("step", "x << 1")
        self.assertEqual(context.exception.index, 0)


if __name__ == "__main__":
    unittest.main()
