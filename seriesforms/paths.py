"""What is told of data with one pattern: entries as sums over the entries of the letters."""

from seriesforms.ratios import Ratio
from seriesforms.series import Series
from seriesforms.terms import dot, put_in


class Path:
    """The way of a machine through the places of data with these patterns."""

    def __init__(self, machine, patterns, row=None):
        """The patterns are given by their indexes; `row` is the one in the first state, unless it is {0: 1}."""
        self._machine = machine
        self._choices = patterns
        self._row = {0: 1} if row is None else row
        self._passed = [machine.start()]
        self._maps = []
        for pattern in patterns:
            moved, found = machine.move(self._passed[-1], pattern)
            self._passed.append(moved)
            self._maps.append(found)

    def tells(self, root, place, stop):
        """The entry that the root has at this place if the data are cut to the places ahead of `stop`.

        Places are counted from the first one of the patterns, so that those ahead of it are below 0.
        What comes back is None for a gap, otherwise an Entry.
        """
        read = place + self._machine.leads[root]
        if read < stop:
            return self._entry(self._maps[read].told[root], read)
        return self._entry(self._machine.ending(self._passed[stop])[read - stop][root], stop)

    def _entry(self, terms, read):
        """The Entry for a sum over the row ahead of the place `read`, and over the entries at this place."""
        if terms is None:
            return None
        multiples = {}
        while True:
            for unknown, many in terms[1].items():
                if unknown < 0:
                    multiples[read, -1 - unknown] = Ratio(many, terms[0])
            inner = {unknown: many for unknown, many in terms[1].items() if unknown >= 0}
            if read == 0 or list(inner) in ([], [0]):
                # The first coordinate stands for 1, whatever the row is a multiple of.
                return Entry(Ratio(dot(inner, self._row), terms[0] * self._row[0]), multiples)
            read -= 1
            terms = put_in((terms[0], inner), self._maps[read].row)

    def made_data(self, spot):
        """The data with these patterns, all of whose entries are 0, but for a 1 at the spot.

        A spot is a pair of a place and the index of a letter, or None if there is no 1.
        """
        zero, one = Ratio(0), Ratio(1)
        found = {}
        for index, letter in enumerate(self._machine.alphabet):
            entries = []
            for place, pattern in enumerate(self._choices):
                if self._machine.patterns[pattern][index] == 1:
                    entries.append(None)
                else:
                    entries.append(one if spot == (place, index) else zero)
            found[letter.name] = Series(tuple(entries))
        return found


class Entry:
    """A constant, and the multiples of the entries at spots that are added to it."""

    def __init__(self, worth, multiples):
        self.worth = worth
        self.multiples = multiples

    def at(self, spot):
        """What it is if all entries are 0, but for a 1 at the spot."""
        if spot not in self.multiples:
            return self.worth
        return self.worth + self.multiples[spot]


def told_at(entry, spot):
    """What an Entry, or None for a gap, is if all entries are 0, but for a 1 at the spot."""
    return None if entry is None else entry.at(spot)


def parting_spots(left, right):
    """The spots at which a single 1 parts two entries, ascending; ahead of them None if no 1 is needed."""
    if left is None and right is None:
        return []
    if left is None or right is None or left.worth != right.worth:
        return [None]
    spots = sorted(list(left.multiples) + [spot for spot in right.multiples if spot not in left.multiples])
    return [spot for spot in spots if left.at(spot) != right.at(spot)]
