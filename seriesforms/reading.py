"""Formulas from their texts."""

from seriesforms.errors import Clash, NotAFormula, UnknownName
from seriesforms.formulas import Formula
from seriesforms.making import make
from seriesforms.parsing import parse


def read(text, letters):
    """The formula with this text, its names being those of the letters."""
    steps = parse(text)
    known = _letters_by_name(letters)
    for name in names_of(steps):
        if name not in known:
            raise UnknownName(name)
    return made_of(steps, known)


def names(text):
    """The different names in the text, in the order in which they first stand there."""
    return tuple(names_of(parse(text)))


def names_of(steps):
    """The different names in these steps, in the order in which they first stand there."""
    found = {}
    for kind, _, rest in steps:
        if kind == "letter":
            found[rest[0]] = True
    return list(found)


def _letters_by_name(letters):
    if not isinstance(letters, tuple):
        raise NotAFormula(letters)
    for letter in letters:
        if not isinstance(letter, Formula) or letter.kind != "letter":
            raise NotAFormula(letter)
    known = {}
    for letter in letters:
        if letter.name in known:
            raise Clash(letter.name)
        known[letter.name] = letter
    return known


def made_of(steps, known):
    """The formula of these steps, each name standing for the formula that is known under it."""
    # Formulas wait in a row for the step around them.
    waiting = []
    for kind, taken, rest in steps:
        if kind == "letter":
            waiting.append(known[rest[0]])
        else:
            first = len(waiting) - taken
            parts = waiting[first:]
            del waiting[first:]
            waiting.append(make(kind, parts, rest))
    return waiting[0]
