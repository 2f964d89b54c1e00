"""The grammar of the texts of formulas.

A text becomes a row of steps in the order in which they are made: formulas inside ahead of those around them, from
the left. Each step is a triple: its kind; how many of the formulas made last it takes; and its numbers, or the name
of a letter.
"""

from seriesforms.errors import InvalidText, TextError
from seriesforms.naming import DIGITS, LETTERS, is_name
from seriesforms.ratios import Ratio

CAPITALS = "ABCDEFGHIJKLMNOPQRSTUVWXYZ"
SHIFTS = {">>": "later", "<<": "sooner"}
SUMS = {"+": "sum", "-": "difference"}
# Kinds over one formula, with how many counts stand behind it.
OVER_ONE = {"moving": 2, "average": 2, "season": 2, "head": 1, "rest": 1, "tally": 1, "filled": 0, "gaps": 0, "age": 0}


def parse(text):
    """The steps of a text."""
    if not isinstance(text, str):
        raise InvalidText(text)
    parser = Parser(text)
    parser.take_formula()
    if parser.piece() != "":
        parser.refuse()
    return parser.steps


class Parser:
    """Reads a text from the left to the right; each method takes what its name says."""

    def __init__(self, text):
        self._text = text
        self._at = 0
        self.steps = []

    def piece(self, minus=False):
        """The next piece, which is not taken; `minus` says whether a TERM or a NUMBER can begin at a `-`."""
        while self._at < len(self._text) and self._text[self._at] == " ":
            self._at += 1
        start = self._at
        if self._text[start:start + 2] in SHIFTS:
            return self._text[start:start + 2]
        stop = self._end_of_run(start)
        if stop > start:
            return self._text[start:stop]
        if minus and self._text[start:start + 1] == "-" and _is_digit(self._text[start + 1:start + 2]):
            return self._text[start:self._end_of_run(start + 1)]
        return self._text[start:start + 1]

    def _end_of_run(self, start):
        stop = start
        while stop < len(self._text) and _in_run(self._text[stop]):
            stop += 1
        return stop

    def refuse(self):
        """Raises the error at the next piece, or at the end of the text; `piece` has been asked before."""
        raise TextError(self._at)

    def _takes(self, wanted):
        """Takes the next piece if it is this one, and tells whether it is."""
        if self.piece() != wanted:
            return False
        self._at += len(wanted)
        return True

    def _take(self, wanted):
        if not self._takes(wanted):
            self.refuse()

    def _step(self, kind, taken, rest=()):
        self.steps.append((kind, taken, rest))

    # Several levels of the grammar stand in one method each, so that fewer calls stand within one another.

    def take_formula(self):
        """Takes a FORMULA, with each BOTH in it."""
        first = True
        while first or self._takes("|"):
            self._shift()
            while self._takes("&"):
                self._shift()
                self._step("both", 2)
            if not first:
                self._step("either", 2)
            first = False

    def _shift(self):
        """Takes a SHIFT, with the SUM in it."""
        self._term()
        while self.piece() in SUMS:
            kind = SUMS[self.piece()]
            self._at += 1
            self._term()
            self._step(kind, 2)
        while self.piece() in SHIFTS:
            kind = SHIFTS[self.piece()]
            self._at += 2
            self._step(kind, 1, (self._count(),))

    def _term(self):
        """Takes a TERM; what multiplies it stands ahead of it and is made behind it."""
        weights = []
        while True:
            piece = self.piece(True)
            if piece == "-":
                self._at += 1
                weights.append(Ratio(-1))
            elif _is_number(piece):
                self._at += len(piece)
                number = Ratio.read(piece)
                if not self._takes("*"):
                    self._step("constant", 0, (number,))
                    break
                weights.append(number)
            else:
                self._factor(piece)
                break
        for weight in weights[::-1]:
            self._step("scaled", 1, (weight,))

    def _factor(self, piece):
        """Takes a FACTOR that is no NUMBER; `piece` is the next piece."""
        if piece == "(":
            self._take("(")
            self.take_formula()
            self._take(")")
        elif piece == "clock":
            self._take(piece)
            self._step("clock", 0)
        elif is_name(piece):
            self._take(piece)
            self._step("letter", 0, (piece,))
        elif piece in OVER_ONE or piece in ("total", "smooth", "since"):
            self._take(piece)
            self._take("(")
            self.take_formula()
            self._behind_formula(piece)
            self._take(")")
        else:
            self.refuse()

    def _behind_formula(self, kind):
        """Takes what stands behind the first formula in the brackets of a step."""
        if kind == "since":
            self._take(",")
            self.take_formula()
            self._step(kind, 2)
        elif kind == "smooth":
            self._take(",")
            self._step(kind, 1, (self._number(),))
        elif kind == "total":
            every = 0
            if self._takes(","):
                every = self._count()
            self._step(kind, 1, (every,))
        else:
            counts = []
            for _ in range(OVER_ONE[kind]):
                self._take(",")
                counts.append(self._count())
            self._step(kind, 1, tuple(counts))

    def _count(self):
        """Takes a COUNT."""
        piece = self.piece()
        if not _is_count(piece):
            self.refuse()
        self._at += len(piece)
        return int(piece)

    def _number(self):
        """Takes a NUMBER."""
        piece = self.piece(True)
        if not _is_number(piece):
            self.refuse()
        self._at += len(piece)
        return Ratio.read(piece)


def _is_digit(sign):
    return sign != "" and sign in DIGITS


def _in_run(sign):
    return sign in LETTERS or sign in CAPITALS or sign in DIGITS or sign == "_" or sign == "/"


def _is_count(piece):
    """Whether this is a decimal integer from 0 on without leading zeros."""
    if piece == "0":
        return True
    return piece != "" and piece[0] != "0" and all([sign in DIGITS for sign in piece])


def _is_number(piece):
    """Whether this is the text of a Ratio."""
    try:
        Ratio.read(piece)
    except InvalidText:
        return False
    return True
