"""The checker of claims: whatever it accepts is true."""

from seriesforms.claims import read_claim
from seriesforms.covers import is_cover, is_pair, what_differs
from seriesforms.machines import Map
from seriesforms.plain import PlainMachine
from seriesforms.ratios import is_whole
from seriesforms.searching import Front
from seriesforms.spans import shortened
from seriesforms.terms import dot


def accepts(claim, certificate):
    """Whether the claim is one, and the certificate shows that it is true."""
    found = read_claim(claim)
    if found is None:
        return False
    word, letters, formulas = found
    machine = PlainMachine(formulas, letters)
    if word != "unlike":
        return is_cover(word, machine, letters, certificate)
    return _is_data(letters, certificate) and _are_parted(machine, certificate[0], certificate[1])


def _is_data(letters, certificate):
    """Whether this is a pair of a length and a series of this length for each letter."""
    if not isinstance(certificate, tuple) or len(certificate) != 2:
        return False
    length, rows = certificate
    if not is_whole(length) or length < 0 or not isinstance(rows, tuple) or len(rows) != len(letters):
        return False
    return all([_is_series(letter, row, length) for letter, row in zip(letters, rows)])


def _is_series(letter, row, length):
    if not isinstance(row, tuple) or len(row) != length:
        return False
    return all([not letter.full if entry is None else is_pair(entry) for entry in row])


def _are_parted(machine, length, rows):
    """Whether both formulas of the machine differ at some place for these rows of entries."""
    front = Front()
    flags, numbers = machine.start(), {0: 1}
    for place in range(length):
        if rows == () and not _brings_new(front, flags, numbers):
            # Without letters nothing else can come from here on, however great the length is.
            return False
        entries = [row[place] for row in rows]
        source = _with_entries(numbers, entries)
        flags, told, becomes = machine.step(flags, [1 if entry is None else 0 for entry in entries])
        multiples = what_differs("same", told)
        if multiples is None or dot(multiples, source) != 0:
            return True
        numbers = shortened(Map(0, 0, tuple(told), becomes).image(source))
    return False


def _brings_new(front, flags, numbers):
    """Whether the row is no sum of multiples of those that have come with these flags before."""
    front.forget()
    front.take(flags, numbers)
    return front.fresh() != []


def _with_entries(numbers, entries):
    """A multiple of the row of numbers, with the entries that are there as many times."""
    scale = 1
    for entry in entries:
        if entry is not None:
            scale = scale * entry[1]
    source = {index: many * scale for index, many in numbers.items()}
    for index, entry in enumerate(entries):
        if entry is not None:
            source[-1 - index] = entry[0] * source[0] // entry[1]
    return source
