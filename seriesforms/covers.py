"""Covers: rows for the flags of plain machines that show what a formula tells for all data."""

from math import gcd, lcm

from seriesforms.alphabets import patterns_of
from seriesforms.machines import Map
from seriesforms.ratios import is_whole
from seriesforms.searching import Front
from seriesforms.spans import Span
from seriesforms.terms import difference, dot


def is_cover(word, machine, letters, certificate):
    """Whether the certificate is a cover that shows the claim with this word about the formulas of the machine."""
    groups = _groups_of(machine, certificate)
    if groups is None:
        return False
    spans = {}
    for flags, rows in groups:
        if flags in spans:
            return False
        spans[flags] = Span()
        for row in rows:
            spans[flags].keep(row)
    start = machine.start()
    if start not in spans or not spans[start].has({0: 1}):
        return False
    patterns = patterns_of(letters)
    for flags, rows in groups:
        if rows and not all([_goes_on(word, machine.step(flags, gaps), rows, spans) for gaps in patterns]):
            return False
    return True


def _goes_on(word, step, rows, spans):
    """Whether this step tells of the rows what is claimed, and what they become belongs to the flags then."""
    moved, told, row = step
    multiples = what_differs(word, told)
    if multiples is None or moved not in spans:
        return False
    found = Map(0, 0, tuple(told), row)
    for source in found.with_entries(rows):
        if dot(multiples, source) != 0 or not spans[moved].has(found.image(source)):
            return False
    return True


def what_differs(word, told):
    """The multiples that must be 0 if what is told is to be as claimed; None if it is not, whatever they are."""
    left, right = told[0], told[-1]
    if word == "within" and left is None or word != "full" and left is None and right is None:
        return {}
    if left is None or right is None:
        return None
    return difference(left, right)


def make_cover(machine, letters):
    """The cover with all flags and rows that can be reached."""
    front = Front()
    front.take(machine.start(), {0: 1})
    patterns = patterns_of(letters)
    seen = {}
    waiting = front.fresh()
    while waiting:
        front.forget()
        for flags, rows in waiting:
            for gaps in patterns:
                moved, told, row = machine.step(flags, gaps)
                found = Map(0, 0, tuple(told), row)
                for source in rows if flags in seen else found.with_entries(rows):
                    front.take(moved, found.image(source))
            seen[flags] = True
        waiting = front.fresh()
    return tuple([(flags, tuple([_pairs(row, machine.wide) for row in rows])) for flags, rows in front.gathered()])


def _pairs(row, wide):
    """The row as a tuple of pairs."""
    return tuple([(row.get(index, 0), 1) for index in range(wide)])


def is_pair(value):
    """Whether the value is a number as certificates write it."""
    if not isinstance(value, tuple) or len(value) != 2 or not is_whole(value[0]) or not is_whole(value[1]):
        return False
    return value[1] > 0 and gcd(value[0], value[1]) == 1


def _groups_of(machine, certificate):
    """The pairs of a cover, with rows as dicts; None if it is not of the form of a cover."""
    if not isinstance(certificate, tuple):
        return None
    groups = []
    for group in certificate:
        if not isinstance(group, tuple) or len(group) != 2 or not _are_flags(machine, group[0]):
            return None
        if not isinstance(group[1], tuple):
            return None
        rows = [_whole_row(row, machine.wide) for row in group[1]]
        if None in rows:
            return None
        groups.append((group[0], rows))
    return groups


def _are_flags(machine, flags):
    """Whether these are flags that the machine can have."""
    if not isinstance(flags, tuple) or len(flags) != len(machine.ranges):
        return False
    return all([is_whole(flag) and 0 <= flag < most for flag, most in zip(flags, machine.ranges)])


def _whole_row(row, wide):
    """A multiple of the row that consists of integers, without those that are 0; None if it is no row."""
    if not isinstance(row, tuple) or len(row) != wide or not all([is_pair(number) for number in row]):
        return None
    scale = 1
    for _, bottom in row:
        scale = lcm(scale, bottom)
    return {index: top * (scale // bottom) for index, (top, bottom) in enumerate(row) if top != 0}
