"""A check of claims and certificates by the words of points 19 and 20, place by place and number by number."""

import itertools
import math
from fractions import Fraction

from kit import Plain

from seriesforms.errors import AnswerError, GivenError, NameProblem
from seriesforms.formulas import Formula
from seriesforms.reading import read


def own_flags(formula):
    """For each own flag of a formula how many values it can have."""
    kind, numbers = formula.kind, formula.numbers
    if kind == "later":
        return [2] * numbers[0]
    if kind in ("moving", "average", "tally"):
        return [2] * (numbers[0] - 1)
    if kind == "season" or kind == "total" and numbers[0]:
        return [numbers[0]]
    if kind in ("head", "rest"):
        return [numbers[0] + 1]
    return [2] if kind in ("smooth", "filled", "since", "age") else []


def own_numbers(formula):
    kind, numbers = formula.kind, formula.numbers
    if kind == "later":
        return numbers[0]
    if kind in ("moving", "average"):
        return numbers[0] - 1
    return 1 if kind in ("clock", "total", "smooth", "filled", "since", "age") else 0


def all_flags(formula):
    return [most for inner in formula.parts for most in all_flags(inner)] + own_flags(formula)


def all_numbers(formula):
    return sum(all_numbers(inner) for inner in formula.parts) + own_numbers(formula)


class Step:
    """One place of a machine that stands at these flags and numbers; `one` stands in the place of 1."""

    def __init__(self, one, flags, numbers, entries):
        self.one, self.entries = one, entries
        self.flags, self.numbers = list(flags), list(numbers)
        self.new_flags, self.new_numbers = [], []

    def tell(self, formula):
        inner = [self.tell(part) for part in formula.parts]
        many, wide = len(own_flags(formula)), own_numbers(formula)
        flags, numbers = self.flags[:many], self.numbers[:wide]
        del self.flags[:many]
        del self.numbers[:wide]
        told, flags, numbers = self._own(formula, inner, flags, numbers)
        self.new_flags += flags
        self.new_numbers += numbers
        return told

    def _own(self, formula, inner, flags, numbers):
        kind = formula.kind
        counts = [Fraction(n.top, n.bottom) if hasattr(n, "top") else n for n in formula.numbers]
        a = inner[0] if inner else None
        b = inner[1] if len(inner) > 1 else None
        if kind == "letter":
            return self.entries[formula.name], [], []
        if kind == "constant":
            return counts[0] * self.one, [], []
        if kind == "clock":
            return numbers[0], [], [numbers[0] + self.one]
        if kind in ("sum", "difference"):
            gap = a is None or b is None
            return None if gap else a + b if kind == "sum" else a - b, [], []
        if kind == "scaled":
            return None if a is None else counts[0] * a, [], []
        if kind == "either":
            return b if a is None else a, [], []
        if kind == "both":
            return None if b is None else a, [], []
        if kind == "gaps":
            return self.one if a is None else Fraction(0), [], []
        moved = [0 if a is None else 1] + flags[:-1]
        pushed = [Fraction(0) if a is None else a] + numbers[:-1]
        if kind == "later":
            return numbers[-1] if flags[-1] else None, moved, pushed
        if kind == "tally":
            return self.one * ((a is not None) + sum(flags)), moved, []
        if kind in ("moving", "average"):
            there = ([] if a is None else [a]) + [v for v, flag in zip(numbers, flags) if flag]
            total = sum(there, Fraction(0))
            told = None if len(there) < counts[1] else total / len(there) if kind == "average" else total
            return told, moved, pushed
        return self._remembering(kind, counts, a, b, flags, numbers)

    def _remembering(self, kind, counts, a, b, flags, numbers):
        if kind == "total":
            s = numbers[0]
            after = []
            if counts[0]:
                s = Fraction(0) if flags[0] == 0 else s
                after = [(flags[0] + 1) % counts[0]]
            return (None, after, [s]) if a is None else (s + a, after, [s + a])
        if kind == "smooth":
            if a is None:
                return None, flags, numbers
            y = counts[0] * a + (1 - counts[0]) * numbers[0] if flags[0] else a
            return y, [1], [y]
        if kind == "filled":
            if a is None:
                return numbers[0] if flags[0] else None, flags, numbers
            return a, [1], [a]
        if kind == "since":
            begun = 1 if b is not None else flags[0]
            s = Fraction(0) if b is not None else numbers[0]
            s = s + a if begun and a is not None else s
            return s if begun else None, [begun], [s]
        if kind == "season":
            return a if flags[0] == counts[1] else None, [(flags[0] + 1) % counts[0]], []
        if kind in ("head", "rest"):
            early = flags[0] < counts[0]
            return a if early == (kind == "head") else None, [min(flags[0] + 1, counts[0])], []
        assert kind == "age"
        if a is not None:
            return Fraction(0), [1], [Fraction(0)]
        e = numbers[0] + self.one if flags[0] else numbers[0]
        return e if flags[0] else None, flags, [e]


def step(formulas, flags, row, entries):
    """What the machine of the formulas tells, its flags afterwards, and its row."""
    at = Step(row[0], flags, row[1:], entries)
    told = [at.tell(formula) for formula in formulas]
    return told, tuple(at.new_flags), [row[0]] + at.new_numbers


def is_integer(value):
    return type(value) is int


def number(value):
    """The fraction that a pair stands for, or None."""
    if type(value) is not tuple or len(value) != 2 or not is_integer(value[0]) or not is_integer(value[1]):
        return None
    if value[1] < 1 or math.gcd(value[0], value[1]) != 1:
        return None
    return Fraction(value[0], value[1])


def belongs(row, rows):
    """Whether the row is a sum of multiples of the rows."""
    rows, row = [list(other) for other in rows], list(row)
    for column in range(len(row)):
        pivot = next((other for other in rows if other[column]), None)
        if pivot is None:
            if row[column]:
                return False
            continue
        rows.remove(pivot)
        for other in rows + [row]:
            times = other[column] / pivot[column]
            other[:] = [many - times * base for many, base in zip(other, pivot)]
    return not any(row)


def parsed(claim):
    """The letters and formulas of a claim, or None."""
    if type(claim) is not tuple or len(claim) < 3 or type(claim[0]) is not str:
        return None
    many = {"same": 2, "within": 2, "unlike": 2, "full": 1}.get(claim[0])
    if many is None or len(claim) != 2 + many or type(claim[1]) is not tuple:
        return None
    letters = []
    for pair in claim[1]:
        if type(pair) is not tuple or len(pair) != 2 or type(pair[0]) is not str or type(pair[1]) is not bool:
            return None
        if letters and letters[-1].name >= pair[0]:
            return None
        try:
            letters.append(Formula.letter(*pair))
        except GivenError:
            return None
    formulas = []
    for text in claim[2:]:
        try:
            formulas.append(read(text, tuple(letters)))
        except (GivenError, NameProblem, AnswerError, RecursionError):
            return None
        if str(formulas[-1]) != text or "<<" in text:
            return None
    if {letter.name for letter in letters} != {letter.name for formula in formulas for letter in formula.letters}:
        return None
    return None if sum(not letter.full for letter in letters) > 6 else (letters, formulas)


def accepted(claim, certificate):
    """Whether the certificate shows the claim, by point 20."""
    found = parsed(claim)
    if found is None:
        return False
    letters, formulas = found
    if claim[0] == "unlike":
        return shows_unlike(letters, formulas, certificate)
    return is_cover(claim[0], letters, formulas, certificate)


def shows_unlike(letters, formulas, certificate):
    if type(certificate) is not tuple or len(certificate) != 2:
        return False
    length, rows = certificate
    if not is_integer(length) or length < 0 or type(rows) is not tuple or len(rows) != len(letters):
        return False
    data = {}
    for letter, row in zip(letters, rows):
        if type(row) is not tuple or len(row) != length:
            return False
        data[letter.name] = [None if pair is None else number(pair) for pair in row]
        if any(entry is None and (pair is not None or letter.full) for entry, pair in zip(data[letter.name], row)):
            return False
    left, right = [Plain(data, length).entries(formula) for formula in formulas]
    return left != right


def is_cover(word, letters, formulas, certificate):
    ranges = [most for formula in formulas for most in all_flags(formula)]
    wide = 1 + sum(all_numbers(formula) for formula in formulas)
    if type(certificate) is not tuple:
        return False
    cover = {}
    for group in certificate:
        if type(group) is not tuple or len(group) != 2 or type(group[0]) is not tuple or type(group[1]) is not tuple:
            return False
        flags, rows = group
        if len(flags) != len(ranges) or not all(is_integer(flag) for flag in flags) or flags in cover:
            return False
        if not all(0 <= flag < most for flag, most in zip(flags, ranges)):
            return False
        if not all(type(row) is tuple and len(row) == wide for row in rows):
            return False
        cover[flags] = [[number(pair) for pair in row] for row in rows]
        if any(entry is None for row in cover[flags] for entry in row):
            return False
    first = (0,) * len(ranges)
    if first not in cover or not belongs([Fraction(1)] + [Fraction(0)] * (wide - 1), cover[first]):
        return False
    choices = list(itertools.product(*[(0,) if letter.full else (0, 1) for letter in letters]))
    return all(
        goes_on(word, letters, formulas, flags, cover, gaps) for flags in cover if cover[flags] for gaps in choices
    )


def goes_on(word, letters, formulas, flags, cover, gaps):
    zero = {letter.name: None if gap else Fraction(0) for letter, gap in zip(letters, gaps)}
    applied = [(row, zero) for row in cover[flags]]
    for name, entry in zero.items():
        if entry is not None:
            applied.append(([Fraction(0)] * len(cover[flags][0]), {**zero, name: Fraction(1)}))
    for row, entries in applied:
        told, moved, after = step(formulas, flags, row, entries)
        if moved not in cover or not belongs(after, cover[moved]):
            return False
        if word == "full" and told[0] is None:
            return False
        if word == "same" and told[0] != told[1]:
            return False
        if word == "within" and told[0] is not None and told[0] != told[1]:
            return False
    return True
