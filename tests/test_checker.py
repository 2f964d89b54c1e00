"""Tests of seriesforms.checker and seriesforms.certificates, against a check of their own (coverkit)."""

import random
import unittest

from coverkit import accepted, all_flags, all_numbers
from kit import FORTY, NO_FORMULAS, ODD, STRANGE, Kit, Same, heaviness, random_formula, too_heavy

from seriesforms import certificates, checker
from seriesforms.certificates import certify, certify_full, certify_within
from seriesforms.checker import accepts
from seriesforms.errors import Clash, NotAFormula, NoWay, TooHeavy
from seriesforms.formulas import Formula
from seriesforms.places import never_gaps
from seriesforms.ratios import Ratio
from seriesforms.sameness import parting, same, within
from seriesforms.series import Series

X = Formula.letter("x")
Z = Formula.letter("z")
Y = Formula.letter("y", full=True)
CLOCK = Formula.clock()
ONE = Formula.constant(1)
HALF = Ratio(1, 2)
L = (("x", False),)
LY = (("y", True),)
LXZ = (("x", False), ("z", False))

SAME = [
    (X, X), (Y + Y, 2 * Y), (X + Z, Z + X), (X.filled().filled(), X.filled()), (X & X, X), (Y | X, Y), (CLOCK, 0 + CLOCK),
    (X.total() >> 2, (X >> 2).total()), (X.tally(3), (1 - X.gaps()).moving(3)), (X.average(3, 3), Ratio(1, 3) * X.moving(3, 3)),
    (X.smooth(1), X), (X.season(3, 1).season(2, 0), X.season(6, 4)), (X.head(3).head(5), X.head(3)),
    (X.head(2).rest(2), X.season(2, 0).season(2, 1)), (X.since(Y), X | 0 * Y), (Y.since(Y), Y), (X.age() & X, 0 * X),
    (Y.total(2), Y.moving(2).season(2, 1) | Y), ((X - X).gaps(), X.gaps()), (X.rest(1).gaps(), (X & (ONE >> 1)).gaps()),
    (X.smooth(HALF), X.smooth(HALF) + 0), ((Y.total() - (Y.total() >> 2)) & (Y >> 2), Y.moving(2) & (Y >> 2)),
    (X.filled() - (X.filled() >> 1) & X & (X >> 1), (X - (X >> 1))), (CLOCK.total(4), CLOCK.moving(4).season(4, 3) | CLOCK.total(4)),
]
UNLIKE = [
    (X, 2 * X), (X, X >> 1), (X.total(), X.total(2)), (Y.total(5), Y.total(6)), (X.filled(), X), (X, Formula.constant(0)),
    (X.moving(3, 2), X.moving(3)), (Y.smooth(2), Y.smooth(3)), (X | Z, Z | X), (X & Z, Z & X), (CLOCK.head(8), CLOCK),
    (X.season(12, 11), X.head(1).rest(1)), (X.tally(7), X.tally(6)), (Y.moving(4, 4), Y.total() - (Y.total() >> 4)),
    (CLOCK, ONE), (X.since(Z), X.since(X)), (X.age(), (X >> 1).age() + 1),
]
WITHIN = [
    (X.head(3), X), (X & Z, X), (X, X | Z), (X, X.filled()), (X.season(4, 1), X.season(2, 1)), (X.rest(2), X.rest(1)),
    (Y.total() - (Y.total() >> 3), Y.moving(3)), (X.head(1).rest(1), 7 * Z), (X.average(2, 2), X.average(2)),
]
FULL = [
    Y, X.gaps(), X.tally(4), CLOCK, ONE, X | Y, X.filled() | 0 * Y, Y.smooth(2), (X.head(2) | X.rest(2)).gaps(),
    Y.season(2, 0) | Y.season(2, 1), Y.season(3, 0).filled(), (Y >> 1) | Y, Y.head(1).filled(), CLOCK.head(1).age(),
    X.since(ONE.head(1)), Y.moving(3, 1), Y.average(3), (X | ONE.head(8)) | ONE.rest(8), X.total().gaps() + Y.total(3),
]
GAPS = [X, X.filled(), Y >> 1, Y.head(8), Y.rest(1), X | Z, Y.moving(2, 2), X + Y, X.age(), X.since(Z), Y.season(12, 0)]


def pair(number):
    number = Ratio(1) * number
    return number.top, number.bottom


def machine_of(*formulas):
    """The number of the flags and of the numbers of a row."""
    return sum(len(all_flags(formula)) for formula in formulas), 1 + sum(all_numbers(formula) for formula in formulas)


class CheckerKit(Kit):
    def judged(self, claim, certificate):
        """What `accepts` tells, which must be what the check by the words of the document tells."""
        found = accepts(claim, certificate)
        self.assertIs(type(found), bool)
        self.assertIs(found, accepted(claim, certificate), (claim, certificate))
        self.assertIs(accepts(certificate=certificate, claim=claim), found)
        return found

    def taken(self, claim, certificate):
        self.assertIs(self.judged(claim, certificate), True, (claim, certificate))

    def left(self, claim, certificate):
        self.assertIs(self.judged(claim, certificate), False, (claim, certificate))


class CertifyTest(CheckerKit):
    def test_the_same(self):
        for one, two in SAME:
            with self.subTest(one=str(one), two=str(two)):
                self.assertIs(same(one, two), True)
                claim, cover = certify(one, two)
                letters = tuple((letter.name, letter.full) for letter in (one + two).letters)
                self.assertEqual(claim, ("same", letters, str(one), str(two)))
                self.taken(claim, cover)
                self.assertEqual(certify(other=two, formula=one), (claim, cover))
                self.assertEqual(certify_within(one, two)[0], ("within", *claim[1:]))
                self.taken(*certify_within(one, two))
                self.taken(("within", *claim[1:]), cover)
                self.left(("full", *claim[1:]), cover)
                self.left(("unlike", *claim[1:]), cover)

    def test_unlike(self):
        for one, two in UNLIKE:
            with self.subTest(one=str(one), two=str(two)):
                claim, certificate = certify(one, two)
                found = parting(one, two)
                letters = (one + two).letters
                self.assertEqual(claim[0], "unlike")
                self.assertEqual(claim[1], tuple((letter.name, letter.full) for letter in letters))
                self.assertEqual(claim[2:], (str(one), str(two)))
                rows = [[None if e is None else pair(e) for e in found.data[letter.name].entries] for letter in letters]
                self.assertEqual(certificate, (found.length, tuple(tuple(row) for row in rows)))
                self.taken(claim, certificate)
                for word in ("same", "within", "full"):
                    self.left((word, *claim[1:]), certificate)

    def test_within(self):
        for one, two in WITHIN:
            with self.subTest(one=str(one), two=str(two)):
                claim, cover = certify_within(one, two)
                self.assertEqual((claim[0], claim[2:]), ("within", (str(one), str(two))))
                self.taken(claim, cover)
                self.left(("same", *claim[1:]), cover)
                self.assertEqual(certify_within(other=two, formula=one), (claim, cover))
        for one, two in UNLIKE:
            self.assertIs(certify_within(one, two) is None, not within(one, two))

    def test_full(self):
        for formula in FULL:
            with self.subTest(formula=str(formula)):
                claim, cover = certify_full(formula)
                letters = tuple((letter.name, letter.full) for letter in formula.letters)
                self.assertEqual(claim, ("full", letters, str(formula)))
                self.taken(claim, cover)
                self.assertEqual(certify_full(formula=formula), (claim, cover))
        for formula in GAPS:
            with self.subTest(formula=str(formula)):
                self.assertIsNone(certify_full(formula))

    def test_kinds_of_values(self):
        for _, certificate in [certify(*SAME[6]), certify(*UNLIKE[4]), certify_full(FULL[4]), certify_within(*WITHIN[0])]:
            waiting = [certificate]
            while waiting:
                value = waiting.pop()
                self.assertIn(type(value), (tuple, int, type(None)))
                waiting += value if isinstance(value, tuple) else ()

    def test_random_formulas(self):
        source = random.Random(121)
        met = {"same": 0, "unlike": 0, "within": 0, "full": 0}
        while min(met.values()) < 60:
            letters = source.choice([[X], [Y], [X, Y], [CLOCK]])
            one = random_formula(source, letters, source.randint(1, 4))
            two = random_formula(source, letters, source.randint(1, 3))
            two = source.choice([two, one, one + 0, 1 * one, one | one, one.filled(), one.head(2)])
            one, two = source.choice([(one, two), (two, one)])
            if "<<" in str(one) + str(two) or too_heavy(one, two):
                continue
            found = [certify(one, two), certify_within(one, two), certify_full(one)]
            with self.subTest(one=str(one), two=str(two)):
                self.assertEqual(found[0][0][0], "same" if same(one, two) else "unlike")
                self.assertIs(found[1] is not None, within(one, two))
                self.assertIs(found[2] is not None, never_gaps(one))
                for claim, certificate in [each for each in found if each is not None]:
                    met[claim[0]] += 1
                    self.taken(claim, certificate)
                    self.mutated(claim, certificate, source)

    def mutated(self, claim, certificate, source):
        """Changes one thing anywhere; what the checker tells then must be what the words of the document tell."""
        for _ in range(3):
            if source.random() < 0.3:
                self.judged(changed(claim, source), certificate)
            else:
                self.judged(claim, changed(certificate, source))


def changed(value, source):
    """The value, with one change somewhere in it."""
    paths, waiting = [], [((), value)]
    while waiting:
        path, inner = waiting.pop()
        paths.append(path)
        if isinstance(inner, tuple):
            waiting += [(path + (at,), part) for at, part in enumerate(inner)]
    return changed_at(value, source.choice(paths), source)


def changed_at(value, path, source):
    if path:
        inner = changed_at(value[path[0]], path[1:], source)
        return value[:path[0]] + (inner,) + value[path[0] + 1:]
    if isinstance(value, tuple) and value:
        at = source.randrange(len(value))
        return source.choice([
            value[:at] + value[at + 1:], value[:at] + (value[at],) + value[at:], value[::-1], list(value), (), None,
            value + (source.choice([0, (0, 1), (1, 1), (), None]),), (1, 2), (0, 1), value + value,
        ])
    if isinstance(value, bool):
        return source.choice([not value, int(value), None])
    if isinstance(value, int):
        return source.choice([value + 1, value - 1, -value, 0, 1, 2, bool(value), str(value)])
    if isinstance(value, str):
        return source.choice([value + " ", value[1:], f"({value})", value.replace("x", "y"), "same", "within", "full", "x"])
    return source.choice([(0, 1), 0, (1, 1), None])


class CoverTest(CheckerKit):
    """Covers that differ from those that are told, but are accepted or not by point 20."""

    CLAIM = ("same", L, "(x >> 1)", "(1 * (x >> 1))")

    def cover(self):
        return {flags: list(rows) for flags, rows in certify(X >> 1, 1 * (X >> 1))[1]}

    def packed(self, cover):
        return tuple((flags, tuple(rows)) for flags, rows in cover.items())

    def test_by_hand(self):
        one, zero = (1, 1), (0, 1)
        self.assertEqual(self.cover().keys(), {(0, 0), (1, 1)})
        first, second = (one, zero, zero), (zero, one, one)
        both = {(0, 0): [first], (1, 1): [first, second]}
        self.taken(self.CLAIM, self.packed(both))
        self.taken(self.CLAIM, self.packed({**both, (0, 1): []}))
        self.left(self.CLAIM, self.packed({**both, (0, 1): [first]}))
        self.left(self.CLAIM, self.packed({**both, (0, 1): [(zero, zero, zero)]}))
        self.taken(self.CLAIM, self.packed({(1, 1): both[1, 1], (0, 0): both[0, 0]}))
        self.taken(self.CLAIM, self.packed({(0, 0): [first, second], (1, 1): [second, first]}))
        self.taken(self.CLAIM, self.packed({(0, 0): [first, (zero, one, zero), (zero, zero, one)], (1, 1): [first, second]}))
        self.left(self.CLAIM, self.packed({(0, 0): [first], (1, 1): [first]}))
        self.left(self.CLAIM, self.packed({(0, 0): [first], (1, 1): [second]}))
        self.left(self.CLAIM, self.packed({(0, 0): [first], (1, 1): [first, (zero, one, zero)]}))
        self.left(self.CLAIM, self.packed({(0, 0): [first], (1, 1): [first, second, (zero, one, zero)]}))
        self.left(self.CLAIM, self.packed({(0, 0): [second], (1, 1): [first, second]}))
        self.left(self.CLAIM, self.packed({(0, 0): [], (1, 1): [first, second]}))
        self.left(self.CLAIM, self.packed({(0, 0): [first]}))
        self.left(self.CLAIM, self.packed({(1, 1): [first, second]}))
        self.left(self.CLAIM, ())
        self.taken(self.CLAIM, self.packed({(0, 0): [((2, 1), zero, zero)], (1, 1): [((3, 7), one, one), second]}))
        self.taken(self.CLAIM, self.packed({(0, 0): [((-1, 5), zero, zero)], (1, 1): [first, (zero, (-2, 3), (-2, 3))]}))
        self.taken(self.CLAIM, self.packed({**both, (0, 0): [first, (zero, zero, zero)]}))

    def test_rows_multiplied_and_added(self):
        source = random.Random(122)
        for one, two in SAME:
            claim, cover = certify(one, two)
            groups = []
            for flags, rows in cover:
                mixed = [self.mixed(rows, source) for _ in range(2)]
                rows = [self.times(row, source.choice([2, -1, Ratio(3, 7)])) for row in rows] + mixed
                source.shuffle(rows)
                groups.append((flags, tuple(rows)))
            source.shuffle(groups)
            with self.subTest(one=str(one)):
                self.taken(claim, tuple(groups))

    def times(self, row, factor):
        return tuple(pair(factor * Ratio(top, bottom)) for top, bottom in row)

    def mixed(self, rows, source):
        total = [Ratio(0)] * len(rows[0])
        for row in rows:
            many = source.randint(-3, 3)
            total = [left + many * Ratio(*number) for left, number in zip(total, row)]
        return tuple(pair(number) for number in total)

    def test_a_pair_or_a_row_left_out(self):
        for one, two in SAME:
            claim, cover = certify(one, two)
            for at in range(len(cover)):
                with self.subTest(one=str(one), at=at):
                    self.left(claim, cover[:at] + cover[at + 1:])
                    flags, rows = cover[at]
                    for index in range(len(rows)):
                        self.left(claim, (*cover[:at], (flags, rows[:index] + rows[index + 1:]), *cover[at + 1:]))

    def test_a_flag_changed(self):
        for one, two in SAME:
            claim, cover = certify(one, two)
            at = len(cover) - 1
            flags, rows = cover[at]
            for index in range(len(flags)):
                for other in [flags[index] + 1, flags[index] - 1, -1, 12, bool(flags[index]), None, (0, 1), "0"]:
                    wrong = (flags[:index] + (other,) + flags[index + 1:], rows)
                    with self.subTest(one=str(one), index=index, other=repr(other)):
                        self.judged(claim, (*cover[:at], wrong, *cover[at + 1:]))
                        self.judged(claim, (*cover, wrong))
            self.left(claim, cover + (cover[at],))
            self.left(claim, cover + ((flags, ()),))
            self.left(claim, cover + ((flags + (0,), ()),))
            self.left(claim, cover + (((flags[:-1]), ()),) if flags else cover + (((0,), ()),))

    def test_the_values_of_flags(self):
        """A flag can have as many values as point 19 says, no further one."""
        for formula, most in [
            (X >> 3, [2] * 3), (X.moving(4), [2] * 3), (X.average(2), [2]), (X.tally(3), [2] * 2), (X.total(), []),
            (X.total(5), [5]), (X.smooth(2), [2]), (X.filled(), [2]), (X.since(X), [2]), (X.season(12, 3), [12]),
            (X.head(4), [5]), (X.rest(1), [2]), (X.age(), [2]), (2 * X, []), (CLOCK + X, []),
            ((X >> 1).season(3, 0).filled() & X.head(2), [2, 3, 2, 3]),
        ]:
            formula = formula.gaps()
            claim, cover = certify_full(formula)
            with self.subTest(formula=str(formula)):
                self.assertEqual(all_flags(formula), most)
                self.taken(claim, cover)
                known = {flags for flags, _ in cover}
                for at in range(len(most)):
                    for flag in range(-1, most[at] + 2):
                        flags = (1,) * at + (flag,) + (1,) * (len(most) - at - 1)
                        if flags not in known:
                            wanted = 0 <= flag < most[at]
                            self.assertIs(self.judged(claim, cover + ((flags, ()),)), wanted)

    def test_the_order_of_flags_and_numbers(self):
        """Formulas inside come first, from the left; then the own ones."""
        formula = (X >> 2).season(3, 1).smooth(2) + X.moving(3).total()
        self.assertEqual(all_flags(formula), [2, 2, 3, 2, 2, 2])
        self.assertEqual(machine_of(formula), (6, 7))
        claim, cover = certify(formula, formula + 0)
        self.taken(claim, cover)
        flags = dict(cover)
        # Read one entry: the first flag of `later`, the place modulo 3, and the first flag of `moving`.
        self.assertIn((1, 0, 1, 0, 1, 0) * 2, flags)
        self.assertIn((0, 0, 1, 0, 0, 0) * 2, flags)

    def test_rows_of_every_number(self):
        """Each number of a row stands where the document says; a row with one wrong number belongs no more."""
        formula = (X.filled() >> 2) - CLOCK.total()
        claim, cover = certify(formula, formula + 0)
        self.taken(claim, cover)
        self.assertEqual(machine_of(formula), (3, 6))
        for at, (flags, rows) in enumerate(cover):
            for index, row in enumerate(rows):
                for place in range(len(row)):
                    wrong = row[:place] + ((row[place][0] + 1, row[place][1]),) + row[place + 1:]
                    group = (flags, rows[:index] + (wrong,) + rows[index + 1:])
                    self.judged(claim, (*cover[:at], group, *cover[at + 1:]))

    def test_numbers_as_pairs(self):
        claim, cover = certify(Y + Y, 2 * Y)
        self.assertEqual(claim, ("same", LY, "(y + y)", "(2 * y)"))
        self.taken(claim, (((), (((1, 1),),)),))
        self.taken(claim, (((), (((-3, 7),),)),))
        self.taken(claim, (((), (((0, 1),), ((1, 1),))),))
        for wrong in [
            1, Ratio(1), (1,), (1, 0), (1, -1), (-1, -1), (2, 2), (4, 6), (0, 2), (0, 0), (0, -1), (True, 1), (1, True),
            [1, 1], "11", None, (1, 1, 1), (1, None), (Ratio(1), 1), (1, Ratio(1)), ("1", 1), ((1, 1), 1), (), {1: 1},
        ]:
            with self.subTest(wrong=repr(wrong)):
                self.left(claim, (((), ((wrong,),)),))
                self.left(claim, (((), (((1, 1),), (wrong,))),))
                self.left(("unlike", L, "x", "(2 * x)"), (1, ((wrong,),)))

    def test_forms_of_covers(self):
        claim, cover = certify(Y + Y, 2 * Y)
        row = ((1, 1),)
        for wrong in [
            [((), (row,))], ([(), (row,)],), (((), [row]),), (((), ([(1, 1)],)),), (([], (row,)),), (((), (row,), 0),),
            (((),),), ((),), ((), (row,)), (((), row),), (((0,), (row,)),), (((), (row + row,)),), (((), ((),)),), (((), ()),),
            {(): (row,)}, None, 0, "", X, (((), (row,)), 5), (((), (row,)), ((), ())), (((), (row, 5)),), (((), (row, None)),),
        ]:
            with self.subTest(wrong=repr(wrong)):
                self.left(claim, wrong)


class ClaimTest(CheckerKit):
    def test_words(self):
        claim, cover = certify(Y.gaps(), 0 * Y)
        self.taken(claim, cover)
        self.taken(("within", *claim[1:]), cover)
        for word in ["unlike", "full", "Same", "same ", "", None, b"same", 0, True, ("same",), ["same"], Same(), ODD]:
            with self.subTest(word=repr(word)):
                self.left((word, *claim[1:]), cover)
        self.left(claim[1:], cover)
        self.left(claim + ("y",), cover)
        self.left(claim[:3], cover)
        self.left(list(claim), cover)
        claim, cover = certify_full(Y)
        self.taken(claim, cover)
        self.left(claim + ("y",), cover)
        self.left(("same", *claim[1:]), cover)

    def test_letters(self):
        cover = certify(X + Y, Y + X)[1]
        texts = ("(x + y)", "(y + x)")
        good = (("x", False), ("y", True))
        self.taken(("same", good, *texts), cover)
        self.taken(("same", (("x", True), ("y", False)), *texts), cover)
        self.taken(("same", (("x", True), ("y", True)), *texts), cover)
        for letters in [
            good[::-1], good[:1], good[1:], (), good + (("z", False),), (("a", True),) + good, good + good, good[:1] + good,
            list(good), (list(good[0]), good[1]), (("x", 0), ("y", True)), (("x", None), ("y", True)), (("x",), ("y", True)),
            (("x", False, 1), ("y", True)), (("X", False), ("y", True)), ("x", "y"), (("x", False), "y"), None, "xy", {},
            {"x": False, "y": True}, ((X, False), ("y", True)), ((b"x", False), ("y", True)), (("x", Same()), ("y", ODD)),
            (("clock", False), ("x", False), ("y", True)), ((Same(), False), ("y", True)), ((None, False), ("y", True)),
            (("x", 1), ("y", 1)), (("", False), ("x", False), ("y", True)),
        ]:
            with self.subTest(letters=repr(letters)):
                self.left(("same", letters, *texts), cover)

    def test_names_ascend_as_strings_do(self):
        names = sorted(["a", "a1", "a_", "ab", "b", "b10", "b9"])
        letters = tuple((name, True) for name in names)
        formula = Formula.letter(names[0], True)
        for name in names[1:]:
            formula = formula + Formula.letter(name, True)
        self.assertEqual(certify_full(formula)[0][1], letters)
        self.taken(*certify_full(formula))
        self.left(("full", letters[1:] + letters[:1], str(formula)), certify_full(formula)[1])

    def test_texts(self):
        cover = (((), (((1, 1),),)),)
        self.taken(("same", L, "(x + 1)", "(1 + x)"), cover)
        self.taken(("same", L, "x", "x"), cover)
        self.taken(("same", (), "1/2", "1/2"), cover)
        for text in [
            "x + 1", "((x + 1))", "(x+1)", " (x + 1)", "(x + 1) ", "(x  + 1)", "(x + 01)", "(x + 2/2)", "(x + 1", "x + 1)", "",
            "(1 + y)", "(x + 1) + 0", "(x + q)", "(x +)", "(x + 1)\n", "((x << 1) + 1)", None, 5, b"(x + 1)", X + 1, Same(), ODD,
            ["(x + 1)"], ("(x + 1)",), "x" * 9, "(" * 3000, "-" * 3000, "(x + " * 500, "total(" * 400, "1/" * 900, "%", "\u00e9",
        ]:
            with self.subTest(text=repr(text)[:40]):
                self.left(("same", L, text, "(1 + x)"), cover)
                self.left(("same", L, "(1 + x)", text), cover)
        self.taken(("same", LY, "(-1 * y)", "(-1 * y)"), cover)
        self.left(("same", LY, "-y", "(-1 * y)"), cover)
        self.left(("same", LY, "(- 1 * y)", "(-1 * y)"), cover)
        self.left(("same", L, "(1 + x)", "(2 + x)"), cover)

    def test_steps_ahead(self):
        cover = (((), (((1, 1),),)),)
        self.left(("same", L, "(x << 1)", "(x << 1)"), cover)
        self.left(("full", L, "gaps((x << 1))"), cover)
        self.left(("unlike", L, "(x << 1)", "x"), (1, (((0, 1),),)))

    def test_limits_of_formulas(self):
        tall = X
        for _ in range(19):
            tall = 1 * tall
        cover = certify(X, tall)[1]
        self.taken(("same", L, "x", str(tall)), cover)
        self.left(("same", L, "x", f"(1 * {tall})"), cover)
        self.left(("same", L, f"(1 * {tall})", f"(1 * {tall})"), cover)
        wide = X
        for _ in range(4):
            wide = wide + wide
        wide = wide + (wide.parts[0] + (wide.parts[0].parts[0] + (X + X).filled()))
        self.assertEqual(wide.size, 60)
        self.taken(*certify(wide, wide))
        self.left(("same", L, str(wide), f"filled({wide})"), certify(wide, wide)[1])
        self.left(("same", L, "(x >> 9)", "(x >> 9)"), certify(X >> 7, X >> 7)[1])
        self.left(("same", L, "(x >> 0)", "(x >> 0)"), (((), (((1, 1),),)),))
        for text in ("moving(x, 8, 1)", "total(x, 1)", "season(x, 3, 3)", "head(x, 0)", "tally(x, 1)", "total(x, 0)"):
            self.left(("same", L, text, text), certify(X, X)[1])

    def test_six_letters_with_gaps(self):
        letters = [Formula.letter(name) for name in "abcdefg"]
        six = letters[0]
        for letter in letters[1:6]:
            six = six + letter
        claim, cover = certify(six, six)
        self.taken(claim, cover)
        self.taken(*certify(six + Y, Y + six))
        seven = six + letters[6]
        claim = ("same", tuple((name, False) for name in "abcdefg"), str(seven), str(seven))
        self.left(claim, cover)
        claim = ("unlike", claim[1], str(seven), f"(1 + {seven})")
        self.left(claim, (1, (((0, 1),),) * 7))
        claim = ("unlike", (("a", True), *claim[1][1:]), *claim[2:])
        self.taken(claim, (1, (((0, 1),),) * 7))

    def test_too_heavy_formulas(self):
        """The checker reads what is too heavy for questions."""
        heavy = X.moving(7).moving(7).moving(7)
        text = str(heavy)
        self.assertEqual(too_heavy(heavy), 65536)
        one = ((1, 1),) + ((0, 1),) * 18
        self.left(("full", L, text), (((0,) * 18, (one,)),))
        self.taken(("unlike", L, text, f"(2 * {text})"), (1, (((1, 1),),)))
        self.left(("unlike", L, text, f"(2 * {text})"), (1, ((None,),)))
        full = Y
        for _ in range(4):
            full = full.total(12).total(11)
        self.assertEqual(too_heavy(full), 65536)
        claim = ("full", LY, str(full))
        rows = [[0] * 9 for _ in range(9)]
        for at in range(9):
            rows[at][at] = 1
        every = tuple(tuple((number, 1) for number in row) for row in rows)
        cover = tuple(((t % 12, t % 11) * 4, every) for t in range(132))
        self.taken(claim, cover)
        self.left(claim, cover[:-1])


class UnlikeTest(CheckerKit):
    CLAIM = ("unlike", L, "x", "(x >> 1)")

    def test_data(self):
        zero, one, half = (0, 1), (1, 1), (1, 2)
        for rows in [((zero,),), ((one, one),), ((None, zero),), ((half, half, half),), ((None, one, None, one, one),)]:
            self.taken(self.CLAIM, (len(rows[0]), rows))
            self.left(self.CLAIM, (len(rows[0]) + 1, rows))
            self.left(self.CLAIM, (len(rows[0]) - 1, rows))
            self.left(self.CLAIM, (len(rows[0]), rows + rows))
            self.left(self.CLAIM, (len(rows[0]), ()))
            self.left(self.CLAIM, (len(rows[0]), list(rows)))
            self.left(self.CLAIM, (len(rows[0]), (list(rows[0]),)))
            self.left(self.CLAIM, [len(rows[0]), rows])
            self.left(self.CLAIM, (len(rows[0]), rows, 1))
            self.left(self.CLAIM, rows)
        self.left(self.CLAIM, (0, ((),)))
        self.left(self.CLAIM, (2, ((None, None),)))
        self.left(self.CLAIM, (True, ((one,),)))
        self.left(self.CLAIM, (-1, ((),)))
        self.left(self.CLAIM, (None, ((),)))
        self.left(self.CLAIM, (Ratio(1), ((one,),)))
        self.left(self.CLAIM, (1, ((Ratio(1),),)))
        self.left(self.CLAIM, (1, (Series((1,)),)))
        self.left(self.CLAIM, (1, {"x": (one,)}))
        self.left(self.CLAIM, (10 ** 39, ((one,),)))

    def test_gaps_of_full_letters(self):
        claim = ("unlike", LY, "y", "(y >> 1)")
        self.taken(claim, (1, (((0, 1),),)))
        self.left(claim, (1, ((None,),)))
        self.left(claim, (2, (((0, 1), None),)))
        self.taken(claim, (2, (((0, 1), (5, 3)),)))

    def test_the_order_of_letters(self):
        claim = ("unlike", LXZ, "(x | z)", "x")
        self.taken(claim, (1, ((None,), ((0, 1),))))
        self.left(claim, (1, (((0, 1),), (None,))))
        self.taken(("unlike", LXZ, "z", "(z & x)"), (2, ((None, None), (None, (3, 1)))))

    def test_values_matter(self):
        claim = ("unlike", L, "(2 * x)", "x")
        self.left(claim, (2, (((0, 1), (0, 1)),)))
        self.taken(claim, (2, (((0, 1), (1, 3)),)))
        claim = ("unlike", L, "average(x, 3, 1)", "filled(x)")
        self.left(claim, (3, (((1, 3), (1, 3), None),)))
        self.taken(claim, (3, (((1, 3), (2, 3), None),)))
        great = (10 ** 39 + 1, 10 ** 39)
        self.taken(("unlike", L, "smooth(x, 1/2)", "x"), (2, ((great, (1, 1)),)))

    def test_long_data(self):
        row = ((0, 1),) * 1999 + ((1, 1),)
        self.taken(("unlike", LY, "total(y)", "(0 * y)"), (2000, (row,)))
        self.left(("unlike", LY, "total(y)", "(0 * y)"), (1999, (row[:1999],)))
        self.taken(("unlike", LY, "smooth(y, 1/2)", "(0 * y)"), (2000, (row,)))

    def test_without_letters(self):
        for one, two, length, wanted in [
            ("1", "2", 1, True), ("1", "2", 0, False), ("1", "1", 5, False), ("clock", "(clock | 1)", 2000, False),
            ("clock", "head(clock, 8)", 8, False), ("clock", "head(clock, 8)", 9, True), ("1", "season(1, 12, 0)", 2, True),
            ("total(clock)", "(clock * 1)", 2, False), ("total(clock, 3)", "total(clock)", 3, False),
            ("total(clock, 3)", "total(clock)", 4, True),
        ]:
            with self.subTest(one=one, two=two, length=length):
                self.assertIs(self.judged(("unlike", (), one, two), (length, ())), wanted)
                self.left(("unlike", (), one, two), (length, ((),)))
        # Without letters lengths beyond all bounds can be told, too.
        self.assertIs(accepts(("unlike", (), "clock", "(clock | 1)"), (FORTY, ())), False)
        self.assertIs(accepts(("unlike", (), "clock", "head(clock, 8)"), (FORTY, ())), True)

    def test_random_data(self):
        source = random.Random(123)
        for one, two in SAME + UNLIKE + WITHIN:
            letters = (one + two).letters
            claim = ("unlike", tuple((letter.name, letter.full) for letter in letters), str(one), str(two))
            for _ in range(6):
                length = source.randint(0, 9)
                rows = []
                for letter in letters:
                    worths = [(0, 1), (1, 1), (-2, 3)] + [] if letter.full else [None, (0, 1), (1, 1), (-2, 3)]
                    rows.append(tuple(source.choice(worths) for _ in range(length)))
                with self.subTest(one=str(one), two=str(two)):
                    found = self.judged(claim, (length, tuple(rows)))
                    self.assertIs(found and (one, two) in SAME, False)


class AnythingTest(CheckerKit):
    def test_anything_at_all(self):
        things = [
            *STRANGE, 0, 1, -1, FORTY, "", "x", "same", (), ((),), (((),),), {}, {"x": 1}, [], Ratio(1), X, Series((1,)),
            ("same",), ("same", L), ("same", L, "x"), ("same", L, "x", "x"), ("full", L, "x"), ("unlike", L, "x", "x"),
            ("same", None, None, None), ("same", (None,), "x", "x"), (Same(), L, "x", "x"), ("unlike", (), "1", "2"),
            certify, accepts, CheckerKit, (0, ()), (1, ()), (((), ()),), (((), (((1, 1),),)),), 10 ** 39, (10 ** 39, ()),
        ]
        deep = ()
        for _ in range(18):
            deep = (deep, "x")
        things.append(deep)
        for claim in things:
            for certificate in things:
                with self.subTest(claim=repr(claim)[:60], certificate=repr(certificate)[:60]):
                    found = accepts(claim, certificate)
                    self.assertIs(type(found), bool)
                    if found:
                        self.assertIs(accepted(claim, certificate if certificate != (10 ** 39, ()) else (1, ())), True)

    def test_parts_of_claims(self):
        claim, certificate = certify(X.total(), X.total() + 0)
        other, data = certify(X, 2 * X)
        for thing in [*STRANGE, 0, 1, "", "x", {}, Ratio(1), X, Series(()), FORTY, ("x", False), "(" * 50]:
            for at in range(4):
                with self.subTest(at=at, thing=repr(thing)):
                    self.judged((*claim[:at], thing, *claim[at + 1:]), certificate)
                    self.judged((*other[:at], thing, *other[at + 1:]), data)
            self.judged(claim, certificate[:-1] + (thing,))
            self.judged(claim, ((thing, certificate[0][1]), *certificate[1:]))
            self.judged(claim, ((certificate[0][0], thing), *certificate[1:]))
            self.judged(other, (thing, data[1]))
            self.judged(other, (data[0], thing))


class ErrorsTest(Kit):
    def test_no_formulas(self):
        for given in NO_FORMULAS:
            with self.subTest(given=repr(given)):
                for action in (certify, certify_within):
                    self.refused(NotAFormula, given, action, given, X)
                    self.refused(NotAFormula, given, action, X << 1, given)
                    self.refused(NotAFormula, given, action, given, None)
                    self.refused(NotAFormula, given, action, other=given, formula=X)
                self.refused(NotAFormula, given, certify_full, given)
                self.refused(NotAFormula, given, certify_full, formula=given)

    def test_no_way(self):
        full, heavy = Formula.letter("x", True), X.moving(7).moving(7).moving(7)
        ahead = (X << 2) >> 2
        seven = Formula.letter("a")
        for name in "bcdefg":
            seven = seven + Formula.letter(name)
        for action in (certify, certify_within):
            with self.subTest(action=action.__name__):
                self.refused(NoWay, 0, action, ahead, X)
                self.refused(NoWay, 0, action, ahead, ahead)
                self.refused(NoWay, 1, action, X, ahead)
                self.refused(NoWay, 0, action, ahead, full)
                self.refused(NoWay, 0, action, heavy << 1, X)
                self.refused(NoWay, 1, action, heavy, full << 1)
                self.refused(NoWay, 1, action, seven, ahead)
                self.refused(NoWay, 0, action, ahead + seven, seven)
                self.refused(NoWay, 2, action, seven, seven)
                self.refused(NoWay, 2, action, seven, Formula.letter("a", True))
                self.refused(NoWay, 2, action, heavy, seven)
                self.refused(NoWay, 2, action, X + Z + Formula.letter("a") + Formula.letter("b"), seven.parts[0])
        self.refused(NoWay, 0, certify_full, X << 1)
        self.refused(NoWay, 0, certify_full, (seven << 1).gaps())
        self.refused(NoWay, 2, certify_full, seven)
        self.refused(NoWay, 2, certify_full, seven.moving(7).moving(7).moving(7))
        self.assertEqual(certify_full(seven.parts[0].gaps())[0][0], "full")
        self.assertEqual(certify(seven.parts[0], Y)[0][0], "unlike")

    def test_clash_and_heaviness(self):
        full, heavy = Formula.letter("x", True), X.moving(7).moving(7).moving(7)
        wide = CLOCK
        for _ in range(15):
            wide = wide.total()
        for action in (certify, certify_within):
            with self.subTest(action=action.__name__):
                self.refused(Clash, "x", action, X, full)
                self.refused(Clash, "x", action, heavy, full)
                self.refused(TooHeavy, 65536, action, heavy, X)
                self.refused(TooHeavy, 65536, action, X.moving(7).moving(4), X.moving(7).moving(4))
                self.refused(TooHeavy, 64, action, wide + wide, wide + (wide + CLOCK))
        self.refused(TooHeavy, 65536, certify_full, heavy)
        self.refused(TooHeavy, 65536, certify_full, heavy.gaps())

    def test_exactly_at_the_limits(self):
        formula = X.moving(7).filled() & Z
        self.assertEqual(heaviness(formula, formula)[0], 65536)
        self.assertIs(accepts(*certify(formula, formula)), True)
        self.assertEqual(certify_full(formula.gaps().moving(7, 1) & X.gaps())[0][0], "full")
        wide = CLOCK
        for _ in range(15):
            wide = wide.total()
        self.assertEqual(heaviness(wide + wide, 2 * (wide + wide)), (1, 64))
        self.assertIs(accepts(*certify(2 * wide, wide + wide)), True)


class ResultsTest(Kit):
    def test_the_same_call_twice(self):
        for one, two in SAME[:6] + UNLIKE[:6]:
            self.assertEqual(certify(one, two), certify(one, two))
            self.assertEqual(accepts(*certify(one, two)), accepts(*certify(one, two)))

    def test_without_letters(self):
        self.assertEqual(certify(ONE, ONE)[0], ("same", (), "1", "1"))
        self.assertEqual(certify(ONE, 2 * ONE), (("unlike", (), "1", "(2 * 1)"), (1, ())))
        self.assertIs(accepts(*certify(ONE, ONE)), True)


class InterfaceTest(unittest.TestCase):
    def test_defined_here(self):
        self.assertEqual(accepts.__module__, checker.__name__)
        for thing in (certify, certify_within, certify_full):
            self.assertEqual(thing.__module__, certificates.__name__)

    def test_example_of_the_document(self):
        x, y = Formula.letter("x"), Formula.letter("y", full=True)
        claim, cover = certify(y + y, 2 * y)
        self.assertEqual(claim, ("same", (("y", True),), "(y + y)", "(2 * y)"))
        found = [accepts(claim, cover), accepts(claim, (((), ((1,),)),)), accepts(claim, (((), (((1, 1),),)),))]
        self.assertEqual(found, [True, False, True])
        self.assertEqual(certify(x, x >> 1), (("unlike", (("x", False),), "x", "(x >> 1)"), (1, (((0, 1),),))))
        self.assertIsNone(certify_full(x.filled()))


if __name__ == "__main__":
    unittest.main()
