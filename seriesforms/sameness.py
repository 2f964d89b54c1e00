"""Whether two formulas are the same, or one is within the other one; and what parts them."""

from seriesforms.machines import Machine
from seriesforms.paths import Path, parting_spots, told_at
from seriesforms.searching import first_failing
from seriesforms.together import check_pair
from seriesforms.watching import Comparison


class Parting:
    """Data, and a place at which two formulas have unlike entries for them."""

    def __init__(self, length, data, place, left, right):
        self._length = length
        self._data = data
        self._place = place
        self._left = left
        self._right = right

    @property
    def length(self):
        """The length of the data."""
        return self._length

    @property
    def data(self):
        """A new dict with the series of each letter."""
        return dict(self._data)

    @property
    def place(self):
        """The place at which the formulas differ."""
        return self._place

    @place.setter
    def place(self, value):
        # Errors have a place, too, which is set; that of a result is not.
        raise AttributeError("a result stays as it was made")

    @property
    def left(self):
        """The entry of the first formula there, or None."""
        return self._left

    @property
    def right(self):
        """The entry of the other formula there, or None."""
        return self._right

    def __eq__(self, other):
        if not isinstance(other, Parting) or self._length != other.length or self._data != other.data:
            return False
        return (self._place, self._left, self._right) == (other.place, other.left, other.right)


def same(formula, other):
    """Whether both formulas always give the same."""
    return parting(formula, other) is None


def within(formula, other):
    """Whether the other formula has the same entry wherever the first one has one."""
    return breach(formula, other) is None


def parting(formula, other):
    """The parting of both formulas, or None if they are the same."""
    check_pair(formula, other)
    return _parting(formula, other, False)


def breach(formula, other):
    """The parting of the first formula within the other one, or None if it is within it."""
    check_pair(formula, other)
    return _parting(formula, other, True)


def _parting(formula, other, within_only):
    if formula == other:
        return None
    machine = Machine((formula, other))
    patterns = first_failing(Comparison(machine, within_only))
    if patterns is None:
        return None
    path, length = Path(machine, patterns), len(patterns)
    # What is told of earlier places is told without the last place, by which they would have been parted before.
    place = max(0, length - 1 - max(machine.leads))
    while True:
        left, right = path.tells(0, place, length), path.tells(1, place, length)
        spots = parting_spots(left, right)
        if spots and not (within_only and left is None):
            return Parting(length, path.made_data(spots[0]), place, told_at(left, spots[0]), told_at(right, spots[0]))
        place += 1
