"""Tests of seriesforms.steps."""

import random
import unittest

from kit import NO_FORMULAS, ODD, STRANGE, Kit, Same, heaviness, plain_value, random_formula, searched_parting, too_heavy

from seriesforms import steps as module
from seriesforms.errors import AnswerError, Clash, InvalidData, InvalidPath, NotAFormula, TooHeavy, TooLarge
from seriesforms.formulas import Formula
from seriesforms.ratios import Ratio
from seriesforms.reading import read
from seriesforms.sameness import same
from seriesforms.series import Series
from seriesforms.steps import idle, part, put, without
from seriesforms.values import value

X = Formula.letter("x")
Z = Formula.letter("z")
Y = Formula.letter("y", full=True)
CLOCK = Formula.clock()

# A formula of each kind over x (and z).
KINDS = [
    X, Formula.constant(Ratio(2, 3)), CLOCK, X + Z, X - Z, 3 * X, X >> 2, X << 2, X | Z, X & Z, X.total(), X.total(3),
    X.moving(3, 2), X.average(4), X.smooth(Ratio(1, 2)), X.filled(), X.since(Z), X.season(4, 1), X.head(3), X.rest(2),
    X.gaps(), X.tally(3), X.age(),
]
NO_DICTS = [entry for entry in [*STRANGE, 0, "x", Ratio(1), X, Series(())]]
NO_PATHS = [entry for entry in [*STRANGE, 0, 1, "", "0", {}, {0: 0}, [0], range(1)] if entry not in ((), (1,))]


def all_paths(formula, path=()):
    """Each path into the formula, with the part there."""
    found = [(path, formula)]
    for index, inner in enumerate(formula.parts):
        found += all_paths(inner, path + (index,))
    return found


class PutTest(Kit):
    def test_texts(self):
        for formula, formulas, text in [
            (X, {}, "x"),
            (X, {"x": Z}, "z"),
            (X, {"x": X}, "x"),
            (X + Z, {"x": Z, "z": X}, "(z + x)"),
            (X + Z, {"x": X + Z}, "((x + z) + z)"),
            (X.total() - X, {"x": CLOCK}, "(total(clock) - clock)"),
            (X >> 1, {"z": Y, "y": X}, "(x >> 1)"),
            (CLOCK, {"clock": X}, "clock"),
            (Formula.constant(3), {"x": X}, "3"),
            ((X << 8) >> 3, {"x": X >> 5}, "(((x >> 5) << 8) >> 3)"),
            (X.total(5) | Z.total(), {"x": Z, "z": Z >> 1}, "(total(z, 5) | total((z >> 1)))"),
            (X.moving(7, 3).average(4, 4).tally(2), {"x": 2 * X}, "tally(average(moving((2 * x), 7, 3), 4, 4), 2)"),
            (X.since(Z).smooth(Ratio(-1, 2)), {"z": X, "x": Z}, "smooth(since(z, x), -1/2)"),
            (X.season(12, 11).head(8).rest(1), {"x": X & Z}, "rest(head(season((x & z), 12, 11), 8), 1)"),
            (-X.gaps() + X.age() - X.filled(), {"x": Y}, "(((-1 * gaps(y)) + age(y)) - filled(y))"),
        ]:
            with self.subTest(text=text):
                self.assertEqual(str(put(formula, formulas)), text)
                self.assertEqual(str(put(formulas=formulas, formula=formula)), text)

    def test_each_kind(self):
        for formula in KINDS:
            with self.subTest(formula=str(formula)):
                self.assertEqual(put(formula, {}), formula)
                self.assertEqual(put(formula, {"x": X, "z": Z}), formula)
                found = put(formula, {"x": Y.filled(), "z": CLOCK})
                self.assertEqual(str(found), str(formula).replace("x", "filled(y)").replace("z", "clock"))
                if formula != X:
                    self.assertEqual((found.kind, found.numbers), (formula.kind, formula.numbers))

    def test_full_letters_may_change(self):
        found = put(X.total(), {"x": Formula.letter("x", True)})
        self.assertEqual([letter.full for letter in found.letters], [True])
        self.assertEqual(found.full, True)
        self.assertEqual(put(Y + 1, {"y": Formula.letter("y")}).full, False)

    def test_other_keys_do_no_harm(self):
        formulas = {"x": Z, 1: 2, None: None, ("x",): "x", "": 5, "w": "no formula", b"x": X, True: X, Ratio: X, "clock": 1}
        before = dict(formulas)
        self.assertEqual(str(put(X + Y, formulas)), "(z + y)")
        self.assertEqual(formulas, before)

    def test_values(self):
        """The formula that comes gives what the whole one gives for the series of the parts put in."""
        source = random.Random(81)
        for _ in range(150):
            outer = random_formula(source, [X, Z], source.randint(1, 4))
            inner = {"x": random_formula(source, [X, Y], 2), "z": random_formula(source, [Z, X], 2)}
            try:
                found = put(outer, inner)
            except (TooLarge, Clash):
                continue
            length = source.randint(0, 12)
            data = {}
            for name in "xyz":
                entries = [source.choice([None, 0, 1, -2, Ratio(1, 2)]) for _ in range(length)]
                data[name] = Series(tuple(entry or 0 for entry in entries) if name == "y" else tuple(entries))
            middle = {name: value(formula, data, length) for name, formula in inner.items()}
            with self.subTest(outer=str(outer), inner=[str(formula) for formula in inner.values()]):
                self.assertEqual(value(found, data, length), value(outer, middle, length))
                self.assertEqual(plain_value(found, data, length), plain_value(outer, middle, length))

    def test_formulas_stay(self):
        formula, formulas = X + Z.total(), {"x": Z >> 1, "q": 5}
        put(formula, formulas)
        self.assertEqual(str(formula), "(x + total(z))")
        self.assertEqual(formulas, {"x": Z >> 1, "q": 5})
        self.assertEqual(put(formula, formulas), put(formula, formulas))


def deep(formula, many):
    for _ in range(many):
        formula = formula.filled()
    return formula


class PutErrorsTest(Kit):
    def test_no_formula(self):
        for given in NO_FORMULAS:
            with self.subTest(given=repr(given)):
                self.refused(NotAFormula, given, put, given, {})
                self.refused(NotAFormula, given, put, given, None)
                self.refused(NotAFormula, given, put, X + Z, {"x": given})
                self.refused(NotAFormula, given, put, X + Z, {"z": given})
                self.refused(NotAFormula, given, put, X + Z, {"z": "other", "x": given})
                self.refused(NotAFormula, given, put, Z + X, {"z": given, "x": Z, "a": "other"})

    def test_no_dict(self):
        for given in NO_DICTS:
            with self.subTest(given=repr(given)):
                self.refused(InvalidData, given, put, X, given)
                self.refused(InvalidData, given, put, formulas=given, formula=CLOCK)

    def test_clash(self):
        full = Formula.letter("x", True)
        self.refused(Clash, "x", put, X + Z, {"x": full, "z": X})
        self.refused(Clash, "x", put, X + Z, {"z": full})
        self.refused(Clash, "x", put, (X + Z).total(), {"z": full >> 1})
        self.refused(NotAFormula, 5, put, X + Z + Y, {"z": full, "y": 5})
        # The formula inside, on the left, comes first.
        one = (X + Formula.letter("a")) - (Z + Formula.letter("b"))
        clashing = {"x": Formula.letter("a", True), "z": Formula.letter("b", True)}
        self.refused(Clash, "a", put, one, clashing)
        self.refused(Clash, "b", put, one, {"z": clashing["z"]})
        both = {"x": Formula.letter("c", True) + Formula.letter("d"), "z": Formula.letter("d", True) + Formula.letter("c")}
        self.refused(Clash, "c", put, X + Z, both)

    def test_too_large(self):
        tall = deep(X, 19)
        self.refused(TooLarge, 20, put, X.total(), {"x": tall})
        self.assertEqual(put(X.total(), {"x": deep(X, 18)}).levels, 20)
        self.refused(TooLarge, 8, put, X << 1, {"x": X << 8})
        self.assertEqual(put(X << 1, {"x": X << 7}).lead, 8)
        wide = X
        for _ in range(4):
            wide = wide + wide
        self.assertEqual(wide.size, 31)
        self.refused(TooLarge, 60, put, X + Z, {"x": wide, "z": wide})
        narrow = wide.parts[0] + (wide.parts[0].parts[0] + (X - X).filled())
        self.assertEqual(put(X + Z, {"x": wide, "z": narrow}).size, 60)
        self.refused(TooLarge, 60, put, X + Z, {"x": wide, "z": narrow.filled()})

    def test_the_first_error_comes_from_inside_and_the_left(self):
        tall, ahead = deep(X, 19), X << 8
        one = (X << 1) + Z.total()
        self.refused(TooLarge, 8, put, one, {"x": ahead, "z": tall})
        self.refused(TooLarge, 20, put, one, {"x": X, "z": tall})
        self.refused(TooLarge, 20, put, Z.total() + (X << 1), {"x": ahead, "z": tall})
        self.refused(TooLarge, 8, put, (X << 1).total() + Z, {"x": ahead, "z": tall})
        self.refused(Clash, "x", put, (X + Z) << 1, {"x": ahead, "z": Formula.letter("x", True)})
        self.refused(TooLarge, 8, put, (X << 1) + Z, {"x": ahead, "z": Formula.letter("x", True)})


class PartTest(Kit):
    FORMULA = read("since(moving(x + 2 * z, 3, 1) >> 1, (y | clock) & filled(x))", (X, Y, Z))

    def test_each_path(self):
        source = random.Random(82)
        formulas = [self.FORMULA, *KINDS, *[random_formula(source, [X, Y, Z], 5) for _ in range(40)]]
        for formula in formulas:
            for path, inner in all_paths(formula):
                with self.subTest(formula=str(formula), path=path):
                    self.assertEqual(part(formula, path), inner)
                    self.assertEqual(part(path=path, formula=formula), inner)
        self.assertEqual(str(part(self.FORMULA, (0, 0, 0, 1, 0))), "z")
        self.assertEqual(part(self.FORMULA, ()), self.FORMULA)
        self.assertEqual(str(part(self.FORMULA, (1, 0))), "(y | clock)")

    def test_no_formula(self):
        for given in NO_FORMULAS:
            for action in (part, without):
                with self.subTest(given=repr(given), action=action.__name__):
                    self.refused(NotAFormula, given, action, given, ())
                    self.refused(NotAFormula, given, action, given, None)
            with self.subTest(given=repr(given)):
                self.refused(NotAFormula, given, idle, given)
                self.refused(NotAFormula, given, idle, formula=given)

    def test_no_path(self):
        for given in NO_PATHS:
            for action in (part, without):
                with self.subTest(given=repr(given), action=action.__name__):
                    self.refused(InvalidPath, given, action, self.FORMULA, given)
                    self.refused(InvalidPath, given, action, path=given, formula=X)

    def test_no_index(self):
        for index in [*STRANGE, -1, 2, 10 ** 39, -10 ** 39, "0", Ratio(0), Ratio(1), X, {}, [0], (0,)]:
            for path in [(index,), (0, index), (1, 1, index), (index, 0), (index, index)]:
                for action in (part, without):
                    with self.subTest(path=repr(path), action=action.__name__):
                        self.refused(InvalidPath, path, action, self.FORMULA, path)

    def test_beyond_the_last_part(self):
        for formula in KINDS:
            for path, inner in all_paths(formula):
                beyond = path + (len(inner.parts),)
                with self.subTest(formula=str(formula), path=path):
                    self.refused(InvalidPath, beyond, part, formula, beyond)
                    self.refused(InvalidPath, beyond, without, formula, beyond)


class WithoutTest(Kit):
    def test_texts(self):
        f = X.filled().total().filled()
        for formula, path, text in [
            (f, (), "total(filled(x))"),
            (f, (0,), "filled(filled(x))"),
            (f, (0, 0), "filled(total(x))"),
            (X + Z, (), "x"),
            (X.since(Z >> 1) - Y, (0, 1), "(since(x, z) - y)"),
            (X.since(Z >> 1) - Y, (0,), "(x - y)"),
            (X.since(Z >> 1) - Y, (), "since(x, (z >> 1))"),
            ((3 * X) | (X << 2).season(12, 3), (1, 0), "((3 * x) | season(x, 12, 3))"),
            ((X << 2).average(7, 2).moving(3, 3), (0,), "moving((x << 2), 3, 3)"),
            (X.total(4).smooth(Ratio(1, 3)).head(2).rest(2), (0, 0), "rest(head(total(x, 4), 2), 2)"),
            (X.gaps().tally(5).age(), (0, 0), "age(tally(x, 5))"),
            (Formula.constant(2) & X, (), "2"),
        ]:
            with self.subTest(text=text):
                self.assertEqual(str(without(formula, path)), text)
                self.assertEqual(str(without(path=path, formula=formula)), text)

    def test_each_path(self):
        source = random.Random(83)
        for _ in range(60):
            formula = random_formula(source, [X, Y, Z], 4)
            for path, inner in all_paths(formula):
                with self.subTest(formula=str(formula), path=path):
                    if inner.parts == ():
                        self.refused(InvalidPath, path, without, formula, path)
                        continue
                    found = without(formula, path)
                    self.assertEqual(part(found, path), inner.parts[0])
                    self.assertEqual(found.size, formula.size - inner.size + inner.parts[0].size)
                    for other, kept in all_paths(formula):
                        if other[:len(path)] != path and path[:len(other)] != other:
                            self.assertEqual(part(found, other), kept)

    def test_too_large(self):
        formula = ((X << 8) >> 8) << 1
        self.refused(TooLarge, 8, without, formula, (0,))
        self.assertEqual(str(without(formula, (0, 0))), "((x >> 8) << 1)")
        self.assertEqual(str(without(formula, ())), "((x << 8) >> 8)")
        self.refused(TooLarge, 8, without, (formula.filled() | Z) + 1, (0, 0, 0, 0))

    def test_letters_clocks_and_constants_have_no_parts(self):
        for formula in (X, Y, CLOCK, Formula.constant(3)):
            self.refused(InvalidPath, (), without, formula, ())
            self.refused(InvalidPath, (0,), part, formula, (0,))
            self.assertEqual(part(formula, ()), formula)


# A formula, and the paths of its idle steps.
IDLE = [
    (X, ()),
    (CLOCK, ()),
    (X.filled(), ()),
    (Y.filled(), ((),)),
    (X.filled().filled(), ((), (0,))),
    (X.filled().total().filled(), ((),)),
    (Y.filled() + Y.head(1), ((0,),)),
    (1 * X, ((),)),
    (2 * X, ()),
    (0 * (2 * X), ((0,),)),
    (0 * (X - X), ((), (0,))),
    (X + 0, ((),)),
    (0 + X, ()),
    (X - 0 * Y, ((),)),
    (X + 0 * Z, ()),
    (X | X, ((),)),
    (Y | X, ((),)),
    (Y | X.total(), ((), (1,))),
    (X & X, ((),)),
    (X & Y, ((),)),
    (X & Z.filled().filled(), ((1,), (1, 0))),
    (X >> 1, ()),
    (X << 1, ()),
    ((X << 3) >> 3, ()),
    (Formula.constant(1) >> 1, ()),
    ((Formula.constant(1) >> 2).rest(3), ((0,),)),
    ((Formula.constant(1) >> 2).rest(2), ((), (0,))),
    ((Formula.constant(1) >> 3).rest(2), ((),)),
    (X.smooth(1), ((),)),
    (X.smooth(0), ()),
    (Y.season(3, 0).total(3), ((),)),
    (X.season(6, 1).season(3, 1), ((),)),
    (X.season(3, 1).season(6, 1), ((0,),)),
    (X.head(3).head(5), ((),)),
    (X.head(5).head(3), ((0,),)),
    (X.rest(3).rest(3), ((), (0,))),
    (X.head(2).rest(2), ()),
    (X.head(2).rest(2).filled().total(), ((), (0,))),
    (X.gaps().gaps(), ()),
    (X.gaps().gaps().gaps(), ((), (0,), (0, 0))),
    (X.total().gaps(), ((0,),)),
    ((2 * X).tally(3), ((0,),)),
    (X.total().age(), ((0,),)),
    (Y.age(), ()),
    (0 * Y.age(), ((), (0,))),
    (X.since(Y), ()),
    (Y.since(Y), ((),)),
    (X.since(2 * Z), ((1,),)),
    (X.since(X), ()),
    (X.moving(3, 3).moving(2), ()),
    (X.average(2).tally(2), ()),
    (X.moving(2).filled(), ()),
    (X.filled().moving(2), ()),
    (X.filled().moving(2).filled(), ((),)),
]


class IdleTest(Kit):
    def compared(self, formula):
        """The paths of the steps that can be left out, found by comparing."""
        found = []
        for path, inner in all_paths(formula):
            if inner.parts:
                try:
                    if same(formula, without(formula, path)):
                        found.append(path)
                except TooLarge:
                    pass
        return tuple(found)

    def test_by_hand(self):
        for formula, paths in IDLE:
            with self.subTest(formula=str(formula)):
                found = idle(formula)
                self.assertEqual(found, paths)
                self.assertEqual(found, self.compared(formula))
                self.assertEqual(idle(formula=formula), paths)

    def test_random_formulas(self):
        source = random.Random(84)
        met = 0
        while met < 250:
            formula = random_formula(source, source.choice([[X], [Y], [X, Y]]), source.randint(1, 4))
            if source.random() < 0.3:
                formula = source.choice([formula.filled().filled(), formula & formula, 1 * formula, formula.gaps() + 0])
            if too_heavy(formula, formula):
                self.refused(TooHeavy, too_heavy(formula, formula), idle, formula)
                continue
            with self.subTest(formula=str(formula)):
                try:
                    self.assertEqual(idle(formula), self.compared(formula))
                except TooHeavy:
                    continue
                met += 1

    def test_a_search_agrees(self):
        source = random.Random(85)
        for _ in range(40):
            formula = random_formula(source, [X], 3)
            if too_heavy(formula, formula):
                continue
            found = idle(formula)
            for path in found:
                with self.subTest(formula=str(formula), path=path):
                    self.assertIsNone(searched_parting(formula, without(formula, path), 4))

    def test_the_paths_ascend(self):
        found = idle((Y | X).filled() + (1 * (1 * Y)) * 1)
        self.assertEqual(found, tuple(sorted(found)))
        self.assertEqual(found, ((0,), (0, 0), (1,), (1, 0), (1, 0, 0)))

    def test_steps_that_hide_a_lead(self):
        """A step that would bring a lead above 8 to light cannot be left out."""
        formula = (((Y << 8) >> 8) << 1) & ((Y << 1) & Y)
        self.refused(TooLarge, 8, without, formula, (0, 0))
        self.assertEqual(idle(formula), self.compared(formula))
        hidden = Y | ((X << 8) >> 8) << 1
        self.assertEqual(idle(hidden), ((), (1,), (1, 0, 0)))
        self.assertEqual(idle(Y | ((X << 7) >> 7) << 1), ((), (1,), (1, 0), (1, 0, 0)))

    def test_what_is_left_may_be_too_heavy(self):
        """Only the formula itself must not be too heavy."""
        formula = X & Z
        for name in "abcd":
            formula = formula + Formula.letter(name)
        formula = Y | ((formula << 4) >> 4) + Formula.letter("e")
        shorter = without(formula, (1, 0))
        self.assertEqual(heaviness(formula, formula)[0], 128)
        self.assertIsNone(too_heavy(formula, formula))
        self.assertEqual(heaviness(formula, shorter)[0], 5 * 128 * 16)
        one = ((((X << 6) >> 6) + Z) + Formula.letter("a")) + Formula.letter("b")
        self.assertIsNone(too_heavy(one, one))
        self.assertEqual(too_heavy(one, without(one, (0, 0, 0))), 65536)
        self.assertEqual(idle(one), ())
        self.assertEqual(idle(Y | one), ((), (1,), (1, 0), (1, 0, 0), (1, 0, 0, 0), (1, 0, 0, 0, 0)))

    def test_too_heavy(self):
        heavy = X.moving(7).moving(3)
        self.refused(TooHeavy, 65536, idle, heavy & heavy)
        self.refused(TooHeavy, 65536, idle, X.moving(7).tally(4))
        wide = CLOCK
        for _ in range(15):
            wide = wide.total()
        self.refused(TooHeavy, 64, idle, wide + (wide + CLOCK))
        self.refused(TooHeavy, 65536, idle, (wide + (wide + CLOCK)) + X.moving(7).tally(4))

    def test_exactly_at_the_limits(self):
        wide = CLOCK
        for _ in range(15):
            wide = wide.total()
        formula = wide + wide
        self.assertEqual(heaviness(formula, formula)[1], 64)
        self.assertEqual(idle(formula), ())
        formula = X.moving(7) & Z.filled().filled()
        while heaviness(formula, formula)[0] < 65536:
            formula = formula & Formula.letter(f"a{formula.size}")
        formula = X.filled().filled().filled().season(2, 0).season(4, 0)
        self.assertEqual(heaviness(formula, formula)[0], 8192)
        self.assertEqual(idle(formula), ((0,), (0, 0), (0, 0, 0), (0, 0, 0, 0)))
        formula = X.moving(7).filled() & Z
        self.assertEqual(heaviness(formula, formula)[0], 65536)
        self.assertEqual(idle(formula), ())
        self.refused(TooHeavy, 65536, idle, formula & Formula.letter("a"))

    def test_the_same_call_twice(self):
        formula = X.filled().filled() + (Y | Z)
        self.assertEqual(idle(formula), idle(formula))
        self.assertEqual(str(formula), "(filled(filled(x)) + (y | z))")


class InterfaceTest(unittest.TestCase):
    def test_defined_here(self):
        for thing in (put, part, without, idle):
            self.assertEqual(thing.__module__, module.__name__)

    def test_example_of_the_document(self):
        x, y = Formula.letter("x"), Formula.letter("y", full=True)
        f = x.filled().total().filled()
        found = [str(put(f, {"x": x >> 1, "z": y})), str(part(f, (0, 0))), str(without(f, (0,))), idle(f)]
        self.assertEqual(found, ["filled(total(filled((x >> 1))))", "filled(x)", "filled(filled(x))", ((),)])
        self.assertEqual(idle(y.filled() + y.head(1)), ((0,),))


if __name__ == "__main__":
    unittest.main()
