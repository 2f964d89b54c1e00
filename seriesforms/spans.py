"""Spaces that are spanned by rows, which are dicts from coordinates to integers other than 0."""

from math import gcd


class Span:
    """All sums of multiples of the rows that it was given."""

    def __init__(self):
        self._rows = {}

    def keep(self, row):
        """Adds a row; what comes back is what it brings that is new, or None if there is nothing."""
        while row:
            pivot = min(row)
            base = self._rows.get(pivot)
            if base is None:
                kept = shortened(row)
                self._rows[pivot] = kept
                return kept
            row = _without(row, base, pivot)
        return None

    def has(self, row):
        """Whether the row is such a sum."""
        while row:
            pivot = min(row)
            base = self._rows.get(pivot)
            if base is None:
                return False
            row = _without(row, base, pivot)
        return True

    def basis(self):
        """Rows that span all of this, none of which can be left out; each one begins at another coordinate."""
        return [self._rows[pivot] for pivot in sorted(list(self._rows))]


def _without(row, base, pivot):
    """A multiple of the row, less that multiple of the base with which it is 0 at the pivot."""
    common = gcd(row[pivot], base[pivot])
    times = base[pivot] // common
    taken = row[pivot] // common
    result = dict(row) if times == 1 else {place: many * times for place, many in row.items()}
    for place, many in base.items():
        left = result.get(place, 0) - many * taken
        if left == 0:
            del result[place]
        else:
            result[place] = left
    return result


def shortened(row):
    """The row divided by what all of its numbers have in common."""
    common = 0
    for many in row.values():
        common = gcd(common, many)
    if common == 1:
        return row
    return {place: many // common for place, many in row.items()}
