"""Tests of seriesforms.reading, with a reader of its own that goes by the grammar as it stands in the document."""

import random
import re
import unittest
from math import gcd

from kit import ODD, STRANGE, Kit, Same, random_formula

from seriesforms import reading
from seriesforms.errors import Clash, InvalidCount, InvalidText, NotAFormula, TextError, TooLarge, UnknownName
from seriesforms.formulas import Formula
from seriesforms.ratios import Ratio
from seriesforms.reading import names, read
from seriesforms.series import Series

X = Formula.letter("x")
Z = Formula.letter("z")
Y = Formula.letter("y", full=True)
LETTERS = (X, Y, Z)
NO_STRINGS = [*STRANGE, 0, 1, Ratio(1), X, {}, Series(()), b"x"]

# Each rule of the grammar as its alternatives; what stands in quotes is a piece, words in capitals are pieces of a kind.
GRAMMAR = {
    "formula": ["both", "formula '|' both"],
    "both": ["shift", "both '&' shift"],
    "shift": ["sum", "shift '>>' COUNT", "shift '<<' COUNT"],
    "sum": ["term", "sum '+' term", "sum '-' term"],
    "term": ["NUMBER '*' term", "'-' term", "factor"],
    "factor": [
        "NUMBER", "NAME", "'clock'", "'(' formula ')'",
        "'total' '(' formula ')'", "'total' '(' formula ',' COUNT ')'", "'smooth' '(' formula ',' NUMBER ')'",
        *[f"'{word}' '(' formula ',' COUNT ',' COUNT ')'" for word in ("moving", "average", "season")],
        *[f"'{word}' '(' formula ',' COUNT ')'" for word in ("head", "rest", "tally")],
        *[f"'{word}' '(' formula ')'" for word in ("filled", "gaps", "age")],
        "'since' '(' formula ',' formula ')'",
    ],
}
RULES = {name: [tuple(row.split()) for row in rows] for name, rows in GRAMMAR.items()}
WORDS = "clock total moving average smooth filled since season head rest gaps tally age".split()


def is_number(piece):
    if not re.fullmatch(r"-?[0-9]+(/[0-9]+)?", piece):
        return False
    top, _, bottom = piece.lstrip("-").partition("/")
    if str(int(top)) != top or piece in ("-0",) or piece.startswith("-0"):
        return False
    return bottom == "" or (str(int(bottom)) == bottom and int(bottom) > 1 and gcd(int(top), int(bottom)) == 1)


def fits(terminal, piece):
    if terminal == "NUMBER":
        return is_number(piece)
    if terminal == "COUNT":
        return bool(re.fullmatch(r"0|[1-9][0-9]*", piece))
    if terminal == "NAME":
        return bool(re.fullmatch(r"[a-z][a-z0-9_]{0,7}", piece)) and piece not in WORDS
    return terminal == f"'{piece}'"


def closed(items, chart):
    """All that can be asked for with these items: (rule, alternative, dot, where it began)."""
    found, waiting = set(), list(items)
    while waiting:
        item = waiting.pop()
        if item in found:
            continue
        found.add(item)
        rule, row, dot, begun = item
        if dot == len(row):
            for other, other_row, other_dot, other_begun in list(chart[begun]) if begun < len(chart) else list(found):
                if other_dot < len(other_row) and other_row[other_dot] == rule:
                    waiting.append((other, other_row, other_dot + 1, other_begun))
        elif row[dot] in RULES:
            waiting += [(row[dot], inner, 0, len(chart)) for inner in RULES[row[dot]]]
    return found


def place_of_error(text):
    """The place at which a text is wrong, or None; a reader after Earley."""
    chart = [closed([("formula", row, 0, 0) for row in RULES["formula"]], [])]
    at = 0
    while True:
        while at < len(text) and text[at] == " ":
            at += 1
        wanted = {row[dot] for _, row, dot, _ in chart[-1] if dot < len(row)}
        if at == len(text):
            done = any(rule == "formula" and dot == len(row) and not begun for rule, row, dot, begun in chart[-1])
            return None if done else at
        match = re.compile(r">>|<<|[A-Za-z0-9_/]+|.").match(text, at)
        piece = match.group()
        if piece == "-" and "NUMBER" in wanted and text[at + 1:at + 2].isdigit():
            piece += re.compile(r"[A-Za-z0-9_/]+").match(text, at + 1).group()
        if not any(fits(terminal, piece) for terminal in wanted if terminal not in RULES):
            return at
        moved = [
            (rule, row, dot + 1, begun)
            for rule, row, dot, begun in chart[-1]
            if dot < len(row) and row[dot] not in RULES and fits(row[dot], piece)
        ]
        chart.append(closed(moved, chart))
        at += len(piece)


class ReadTest(Kit):
    def read(self, text, expected):
        with self.subTest(text=text):
            self.assertEqual(read(text, LETTERS), expected)
            self.assertEqual(read(letters=LETTERS, text=text), expected)

    def wrong(self, text, place):
        """That the text is wrong at this place for both functions, whatever the letters are."""
        with self.subTest(text=text):
            self.assertEqual(place_of_error(text), place)
            self.refused(TextError, place, read, text, LETTERS)
            self.refused(TextError, place, read, text, None)
            self.refused(TextError, place, names, text)
            self.refused(TextError, place, names, text=text)


class GrammarTest(ReadTest):
    def test_each_factor(self):
        self.read("x", X)
        self.read("0", Formula.constant(0))
        self.read("17", Formula.constant(17))
        self.read("5/6", Formula.constant(Ratio(5, 6)))
        self.read("-5/6", Formula.constant(Ratio(-5, 6)))
        self.read("clock", Formula.clock())
        self.read("(x)", X)
        self.read("((( x)) )", X)
        self.read("total(x)", X.total())
        self.read("total(x,0)", X.total())
        self.read("total(x, 12)", X.total(12))
        self.read("smooth(x,1/2)", X.smooth(Ratio(1, 2)))
        self.read("smooth(x, -3)", X.smooth(-3))
        self.read("moving(x,7,3)", X.moving(7, 3))
        self.read("average(x,7,3)", X.average(7, 3))
        self.read("season(x,12,0)", X.season(12, 0))
        self.read("head(x,8)", X.head(8))
        self.read("rest(x,8)", X.rest(8))
        self.read("tally(x,2)", X.tally(2))
        self.read("filled(x)", X.filled())
        self.read("gaps(x)", X.gaps())
        self.read("age(x)", X.age())
        self.read("since(x,z)", X.since(Z))
        self.read("since(x|z, x & z)", (X | Z).since(X & Z))

    def test_steps_of_one_level_are_taken_from_the_left(self):
        self.read("x - y + z", (X - Y) + Z)
        self.read("x + y - z - x", ((X + Y) - Z) - X)
        self.read("x - (y + z)", X - (Y + Z))
        self.read("x >> 1 << 2 >> 3", ((X >> 1) << 2) >> 3)
        self.read("x & y & z", (X & Y) & Z)
        self.read("x & (y & z)", X & (Y & Z))
        self.read("x | y | z", (X | Y) | Z)
        self.read("x | (y | z)", X | (Y | Z))

    def test_levels(self):
        self.read("x | y & z", X | (Y & Z))
        self.read("x & y | z", (X & Y) | Z)
        self.read("(x | y) & z", (X | Y) & Z)
        self.read("x & y >> 1", X & (Y >> 1))
        self.read("x + y >> 1", (X + Y) >> 1)
        self.read("x + (y >> 1)", X + (Y >> 1))
        self.read("x - y >> 1 << 2 & z", (((X - Y) >> 1) << 2) & Z)
        self.read("2 * x + y", 2 * X + Y)
        self.read("2 * (x + y)", 2 * (X + Y))
        self.read("2 * 3 * x", 2 * (3 * X))
        self.read("2 * 3", 2 * Formula.constant(3))
        self.read("-1/2 * clock - 3", Ratio(-1, 2) * Formula.clock() - 3)

    def test_minus(self):
        self.read("-x", -1 * X)
        self.read("- x", -1 * X)
        self.read("-2", Formula.constant(-2))
        self.read("- 2", -1 * Formula.constant(2))
        self.read("--2", -1 * Formula.constant(-2))
        self.read("- -2", -1 * Formula.constant(-2))
        self.read("-- 2", -1 * (-1 * Formula.constant(2)))
        self.read("x -2", X - 2)
        self.read("x-2", X - 2)
        self.read("x - 2", X - 2)
        self.read("x - -2", X - Formula.constant(-2))
        self.read("x--2", X - Formula.constant(-2))
        self.read("x - - 2", X - (-1 * Formula.constant(2)))
        self.read("x - -y", X - (-1 * Y))
        self.read("x+-2", X + Formula.constant(-2))
        self.read("x+-2*y", X + -2 * Y)
        self.read("-2*x", -2 * X)
        self.read("- 2*x", -1 * (2 * X))
        self.read("2*-x", 2 * (-1 * X))
        self.read("2*-3", 2 * Formula.constant(-3))
        self.read("-(x)", -1 * X)
        self.read("(-2)", Formula.constant(-2))
        self.read("(-2) -2", Formula.constant(-2) - 2)
        self.read("5 -2", Formula.constant(5) - 2)
        self.read("5 - -2/3", Formula.constant(5) - Ratio(-2, 3))
        self.read("smooth(-2, -2) -2", Formula.constant(-2).smooth(-2) - 2)
        self.read("since(-2, -x)", Formula.constant(-2).since(-1 * X))
        self.read("x | -2 & -3", X | (Formula.constant(-2) & Formula.constant(-3)))
        self.read("x >> 1 & -2", (X >> 1) & Formula.constant(-2))

    def test_spaces(self):
        self.read("  moving ( x , 7 , 3 )  ", X.moving(7, 3))
        self.read("x>>1", X >> 1)
        self.read("  x  >>  1  ", X >> 1)
        self.read("x|y&z", X | (Y & Z))
        self.read("2*x", 2 * X)
        self.read("2  *  x", 2 * X)

    def test_long_and_deep_texts(self):
        self.read("(" * 40 + "x" + ")" * 40, X)
        self.read(" + ".join(["x"] * 20), read("(" * 18 + "x + x" + " + x)" * 17 + ") + x", LETTERS))
        self.refused(TooLarge, 20, read, "- " * 39 + "x", LETTERS)
        self.refused(TooLarge, 20, read, "+".join(["x"] * 250), LETTERS)
        self.refused(TooLarge, 20, read, "x" + " >> 1" * 240, LETTERS)
        self.refused(UnknownName, "w", read, "(" * 39 + "w" + ")" * 39, LETTERS)
        self.wrong("(" * 40 + "x" + ")" * 39, 80)

    def test_texts_read_back(self):
        source = random.Random(4)
        for _ in range(600):
            formula = random_formula(source, list(LETTERS), 5)
            with self.subTest(text=str(formula)):
                self.assertEqual(read(str(formula), LETTERS), formula)
                self.assertEqual(read(str(formula), formula.letters), formula)
                text = str(formula)
                self.assertEqual(set(names(text)), {letter.name for letter in formula.letters})

    def test_letters_keep_what_they_are(self):
        full = Formula.letter("x", full=True)
        self.assertIs(read("x + 1", (full,)).full, True)
        self.assertIs(read("x + 1", (X,)).full, False)
        self.assertEqual(read("1", ()), Formula.constant(1))
        self.assertEqual(read("x", LETTERS * 1 + (Formula.letter("other"),)), X)


class WrongTextsTest(ReadTest):
    def test_breaking_off(self):
        text = "since ( moving(x, 3, 2) >> 1 | smooth(-2*y, 1/2), total(z, 3) - - age (x) ) & ( clock + 5/7 )"
        self.assertIsNone(place_of_error(text))
        read(text, LETTERS)
        for stop in range(len(text)):
            place = place_of_error(text[:stop])
            if place is not None:
                self.wrong(text[:stop], place)
        self.wrong("", 0)
        self.wrong("   ", 3)
        self.wrong("x +", 3)
        self.wrong("x +  ", 5)
        self.wrong("x >>", 4)
        self.wrong("x |", 3)
        self.wrong("x & ", 4)
        self.wrong("2 *", 3)
        self.wrong("-", 1)
        self.wrong("(", 1)
        self.wrong("(x", 2)
        self.wrong("total", 5)
        self.wrong("total(", 6)
        self.wrong("total(x", 7)
        self.wrong("total(x,", 8)
        self.wrong("total(x, 3", 10)
        self.wrong("moving(x, 3", 11)
        self.wrong("moving(x, 3,", 12)
        self.wrong("since(x,", 8)
        self.wrong("smooth(x,", 9)

    def test_pieces_that_cannot_stand(self):
        self.wrong("x/2", 0)
        self.wrong("x + x/2", 4)
        self.wrong("2x", 0)
        self.wrong("-2x", 0)
        self.wrong("x - -2x", 4)
        self.wrong("x -2x", 3)
        self.wrong("x y", 2)
        self.wrong("x 2", 2)
        self.wrong("2 x", 2)
        self.wrong("2 3", 2)
        self.wrong("(x) y", 4)
        self.wrong("(x)(y)", 3)
        self.wrong("x(y)", 1)
        self.wrong("clock(x)", 5)
        self.wrong("x * 2", 2)
        self.wrong("(2) * x", 4)
        self.wrong("x * y", 2)
        self.wrong("2 * x * 3", 6)
        self.wrong("+ x", 0)
        self.wrong("+2", 0)
        self.wrong("x + + y", 4)
        self.wrong("x ++2", 3)
        self.wrong("* x", 0)
        self.wrong("x)", 1)
        self.wrong(")", 0)
        self.wrong("()", 1)
        self.wrong("x,", 1)
        self.wrong(",", 0)
        self.wrong("(x, y)", 2)
        self.wrong("X", 0)
        self.wrong("x + Xy", 4)
        self.wrong("_x", 0)
        self.wrong("abcdefghi", 0)
        self.wrong("x > > 1", 2)
        self.wrong("x >", 2)
        self.wrong("x >>> 1", 4)
        self.wrong("x <> 1", 2)
        self.wrong("x < 1", 2)
        self.wrong("x >> >> 1", 5)
        self.wrong("x || y", 3)
        self.wrong("x && y", 3)
        self.wrong("x = y", 2)
        self.wrong("x . y", 2)
        self.wrong("x % y", 2)
        self.wrong("x // y", 2)
        self.wrong("x / y", 2)
        self.wrong("/", 0)
        self.wrong("-/2", 1)
        self.wrong("'x'", 0)
        self.wrong("~x", 0)

    def test_numbers(self):
        for text in ["00", "01", "-0", "-01", "2/4", "4/2", "5/1", "0/1", "0/3", "1/0", "1/02", "1/-2", "1//2", "1/2/3", "1_0"]:
            self.wrong(text, 0)
        self.wrong("x + 01", 4)
        self.wrong("x - -0", 4)
        self.wrong("x -0 + 01", 7)
        self.wrong("1 / 2", 2)
        self.wrong("1 /2", 2)
        self.wrong("1/ 2", 0)
        self.wrong("smooth(x, 2/4)", 10)
        self.wrong("smooth(x, - 2)", 10)
        self.wrong("smooth(x, -y)", 10)
        self.wrong("smooth(x, -2y)", 10)
        self.wrong("smooth(x, --2)", 10)
        self.wrong("smooth(x, y)", 10)
        self.wrong("smooth(x, 2 * 3)", 12)
        self.wrong("smooth(x, (2))", 10)
        self.wrong("smooth(x)", 8)
        self.wrong("smooth(x, 1, 2)", 11)

    def test_counts(self):
        for text in ["x >> -1", "x >> x", "x >> 01", "x >> 00", "x >> 1/2", "x >> 2/1", "x >> (1)", "x >> +1", "x >> 1x", "x << _1"]:
            self.wrong(text, 5)
        self.wrong("x >> 1 + 2", 7)
        self.wrong("x >> 1 - 2", 7)
        self.wrong("x >> 1 2", 7)
        self.wrong("x >> 1 * 2", 7)
        self.wrong("head(x, -1)", 8)
        self.wrong("head(x, 01)", 8)
        self.wrong("head(x, 1/2)", 8)
        self.wrong("head(x)", 6)
        self.wrong("head(x, 1, 2)", 9)
        self.wrong("moving(x, 3)", 11)
        self.wrong("moving(x)", 8)
        self.wrong("moving(x, 3, 2, 1)", 14)
        self.wrong("moving(3, x, 2)", 10)
        self.wrong("moving()", 7)
        self.wrong("season(x, 3, -1)", 13)
        self.wrong("total(x, -3)", 9)
        self.wrong("total(x, y)", 9)
        self.wrong("total(x, 2, 3)", 10)
        self.wrong("total()", 6)
        self.wrong("total(x 3)", 8)
        self.wrong("filled(x, 1)", 8)
        self.wrong("since(x)", 7)
        self.wrong("since(x, z, y)", 10)
        self.wrong("since(x z)", 8)

    def test_words(self):
        for word in WORDS[1:]:
            self.wrong(f"{word} + x", len(word) + 1)
            self.wrong(f"x + {word}", len(word) + 4)
            self.wrong(f"{word} x", len(word) + 1)
            self.wrong(f"x {word}(x)", 2)
            self.wrong(f"-{word}", len(word) + 1)
        self.wrong("x clock", 2)

    def test_altered_texts(self):
        """Texts in which a sign is left out, put in or exchanged are wrong just where the plain reader says so."""
        source = random.Random(12)
        signs = "xyz012 -+*/()|&<>,_ clock total( since(x, moving(x, 2 smooth(x, -1".split(" ") + list("xz01 -+*/()|&<>,_X")
        right = 0
        for _ in range(2500):
            text = str(random_formula(source, list(LETTERS), source.randint(1, 3)))
            if source.random() < 0.5:
                text = text.replace("(", "", 1) if source.random() < 0.3 else text.replace(" ", "")
            for _ in range(source.randint(0, 2)):
                at, long = source.randint(0, len(text)), source.randint(0, 2)
                text = text[:at] + source.choice(signs) + text[at + long:]
            place = place_of_error(text)
            if place is None:
                right += 1
                names(text)
            else:
                self.wrong(text, place)
        self.assertGreater(right, 300)

    def test_all_short_texts(self):
        pieces = ["x", "2", "-", "+", "*", "(", ")", ">>", " ", "1/2", "age", ","]
        texts = [""]
        for _ in range(4):
            texts = [text + piece for text in texts for piece in pieces]
            if len(texts) > 2000:
                texts = texts[:: len(texts) // 2000 + 1]
            for text in texts:
                place = place_of_error(text)
                if place is None:
                    names(text)
                else:
                    self.refused(TextError, place, names, text)


class ErrorsTest(ReadTest):
    def test_no_strings(self):
        for value in NO_STRINGS:
            with self.subTest(value=repr(value)):
                self.refused(InvalidText, value, read, value, LETTERS)
                self.refused(InvalidText, value, read, value, None)
                self.refused(InvalidText, value, read, letters=5, text=value)
                self.refused(InvalidText, value, names, value)
                self.refused(InvalidText, value, names, text=value)

    def test_no_letters(self):
        for value in [*[value for value in STRANGE if not isinstance(value, tuple)], 0, "x", {}, X, [X], {"x": X}, iter((X,))]:
            with self.subTest(value=repr(value)):
                self.refused(NotAFormula, value, read, "x", value)
                self.refused(NotAFormula, value, read, "w + 1", value)
                self.refused(NotAFormula, value, read, letters=value, text="x")
        for value in [*STRANGE, 0, "x", {}, (X,), [X], X + 1, -X, Formula.constant(1), Formula.clock(), X >> 1]:
            for letters in [(value,), (X, value), (value, X), (X, X, value), (X, value, "other", None)]:
                with self.subTest(letters=repr(letters)):
                    self.refused(NotAFormula, value, read, "x", letters)
                    self.refused(NotAFormula, value, read, "w", letters)

    def test_clash(self):
        full = Formula.letter("x", True)
        self.refused(Clash, "x", read, "1", (X, full))
        self.refused(Clash, "x", read, "1", (X, X))
        self.refused(Clash, "x", read, "w", (X, Z, Formula.letter("x")))
        self.refused(Clash, "z", read, "w >> 9", (X, Z, Z, X))
        self.refused(Clash, "x", read, "w >> 9", (Z, X, Y, full, Z))

    def test_unknown_names(self):
        self.refused(UnknownName, "w", read, "w", LETTERS)
        self.refused(UnknownName, "w", read, "x + w - v", LETTERS)
        self.refused(UnknownName, "v", read, "x - y >> 9 | since(z, v) + w", LETTERS)
        self.refused(UnknownName, "x", read, "x", ())
        self.refused(UnknownName, "b", read, "moving(x, 9, 9) + b + a", LETTERS)

    def test_what_making_raises(self):
        self.refused(InvalidCount, 9, read, "x >> 9", LETTERS)
        self.refused(InvalidCount, 0, read, "x << 0", LETTERS)
        self.refused(InvalidCount, 1, read, "total(x, 1)", LETTERS)
        self.refused(InvalidCount, 13, read, "total(x, 13)", LETTERS)
        self.refused(InvalidCount, 8, read, "moving(x, 8, 0)", LETTERS)
        self.refused(InvalidCount, 0, read, "moving(x, 3, 0)", LETTERS)
        self.refused(InvalidCount, 4, read, "average(x, 3, 4)", LETTERS)
        self.refused(InvalidCount, 3, read, "season(x, 3, 3)", LETTERS)
        self.refused(InvalidCount, 0, read, "head(x, 0)", LETTERS)
        self.refused(InvalidCount, 9, read, "rest(x, 9)", LETTERS)
        self.refused(InvalidCount, 1, read, "tally(x, 1)", LETTERS)
        self.refused(InvalidCount, 10**39, read, f"x >> {10**39}", LETTERS)
        self.refused(TooLarge, 8, read, "x << 8 << 1", LETTERS)
        self.refused(TooLarge, 8, read, "(x << 8) + 1 << 1", LETTERS)

    def test_formulas_inside_come_first_from_the_left(self):
        self.refused(InvalidCount, 10, read, "(x >> 10) + (x >> 11) >> 12", LETTERS)
        self.refused(InvalidCount, 11, read, "since(x >> 1, x >> 11) >> 12", LETTERS)
        self.refused(InvalidCount, 11, read, "head(x >> 11, 9)", LETTERS)
        self.refused(TooLarge, 8, read, "(x << 8 << 1) >> 11", LETTERS)
        self.refused(InvalidCount, 11, read, "(x >> 11) + (x << 8 << 1)", LETTERS)
        self.refused(TooLarge, 8, read, "(x << 8 << 1) + (x >> 11)", LETTERS)
        self.refused(TooLarge, 20, read, "- " * 20 + "x >> 11", LETTERS)
        self.refused(InvalidCount, 11, read, "- " * 19 + "x >> 11", LETTERS)

    def test_names(self):
        self.assertEqual(names("1 + clock"), ())
        self.assertEqual(names("x"), ("x",))
        self.assertEqual(names("z - (a1 + z) >> 99 | since(b_, a1) & c"), ("z", "a1", "b_", "c"))
        self.assertEqual(names("moving(q, 0, 99)"), ("q",))
        self.assertEqual(names(text="b + a"), ("b", "a"))
        self.assertIs(type(names("x")), tuple)

    def test_nothing_alters(self):
        letters = (X, Z)
        self.assertEqual(read("x - z", letters), read("x - z", letters))
        self.assertEqual(letters, (X, Z))
        self.assertEqual(names("x - z"), names("x - z"))


class InterfaceTest(unittest.TestCase):
    def test_defined_here(self):
        for function in (read, names):
            self.assertEqual(function.__module__, reading.__name__)

    def test_example_of_the_document(self):
        x, y = Formula.letter("x"), Formula.letter("y")
        found = [
            str(read("x - y >> 1 | 2*x & -y", (x, y))),
            str(read("smooth(x, -1/2) - - 2", (x,))),
            read("x+y", (y, x)) == x + y,
            names("since(b, a) + b"),
        ]
        self.assertEqual(
            found, ["(((x - y) >> 1) | ((2 * x) & (-1 * y)))", "(smooth(x, -1/2) - (-1 * 2))", True, ("b", "a")]
        )


if __name__ == "__main__":
    unittest.main()
