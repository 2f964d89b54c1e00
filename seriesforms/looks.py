"""By how many places a formula looks ahead and back."""

from seriesforms.backward import find_change, look_back
from seriesforms.changes import Changes
from seriesforms.errors import InvalidCount
from seriesforms.formulas import check_formula
from seriesforms.machines import Machine
from seriesforms.paths import Path, parting_spots, told_at
from seriesforms.ratios import is_whole
from seriesforms.searching import first_failing
from seriesforms.together import check_heaviness
from seriesforms.watching import Leaking

MOST_BACK = 60


class Leak:
    """Data, and a place at which a formula has another entry if the data are cut."""

    def __init__(self, length, data, place, whole, short):
        self._length = length
        self._data = data
        self._place = place
        self._whole = whole
        self._short = short

    @property
    def length(self):
        """The length of the data."""
        return self._length

    @property
    def data(self):
        """A new dict with the series of each letter."""
        return dict(self._data)

    @property
    def place(self):
        """The place at which the entries differ."""
        return self._place

    @place.setter
    def place(self, value):
        # Errors have a place, too, which is set; that of a result is not.
        raise AttributeError("a result stays as it was made")

    @property
    def whole(self):
        """The entry there for the data, or None."""
        return self._whole

    @property
    def short(self):
        """The entry there for the data cut, or None."""
        return self._short

    def __eq__(self, other):
        if not isinstance(other, Leak) or self._length != other.length or self._data != other.data:
            return False
        return (self._place, self._whole, self._short) == (other.place, other.whole, other.short)


class Trace:
    """Two data that are alike near a place at which a formula has unlike entries for them."""

    def __init__(self, length, one, two, place, left, right):
        self._length = length
        self._one = one
        self._two = two
        self._place = place
        self._left = left
        self._right = right

    @property
    def length(self):
        """The length of the data."""
        return self._length

    @property
    def one(self):
        """A new dict with the series of each letter, in the first data."""
        return dict(self._one)

    @property
    def two(self):
        """A new dict with the series of each letter, in the second data."""
        return dict(self._two)

    @property
    def place(self):
        """The place at which the entries differ."""
        return self._place

    @place.setter
    def place(self, value):
        # Errors have a place, too, which is set; that of a result is not.
        raise AttributeError("a result stays as it was made")

    @property
    def left(self):
        """The entry there for the first data, or None."""
        return self._left

    @property
    def right(self):
        """The entry there for the second data, or None."""
        return self._right

    def __eq__(self, other):
        if not isinstance(other, Trace) or self._length != other.length or self._place != other.place:
            return False
        if self._one != other.one or self._two != other.two:
            return False
        return (self._left, self._right) == (other.left, other.right)


def ahead(formula):
    """The number of places by which the formula looks ahead."""
    machine = _machine(formula)
    for count in range(formula.lead):
        if first_failing(Leaking(machine, count)) is None:
            return count
    return formula.lead


def back(formula):
    """The number of places by which the formula looks back, or None if it does so without end."""
    return look_back(Changes(_machine(formula)))


def leak(formula, count):
    """None if the formula looks ahead by at most `count`, otherwise its Leak."""
    check_formula(formula)
    if not is_whole(count) or count < 0:
        raise InvalidCount(count)
    machine = _machine(formula)
    if count >= formula.lead:
        return None
    patterns = first_failing(Leaking(machine, count))
    if patterns is None:
        return None
    path, length = Path(machine, patterns), len(patterns)
    # What is told of earlier places is told without the last place, so that shorter data would do.
    place = max(0, length - 1 - formula.lead)
    while True:
        whole, short = path.tells(0, place, length), path.tells(0, place, place + count + 1)
        spots = parting_spots(whole, short)
        if spots:
            return Leak(length, path.made_data(spots[0]), place, told_at(whole, spots[0]), told_at(short, spots[0]))
        place += 1


def trace(formula, count):
    """None if the formula looks back by at most `count`, otherwise a Trace."""
    check_formula(formula)
    if not is_whole(count) or count < 0 or count > MOST_BACK:
        raise InvalidCount(count)
    machine = _machine(formula)
    changes = Changes(machine)
    most = look_back(changes)
    if most is not None and most <= count:
        return None
    one, other, change, place = find_change(changes, count)
    one_path, other_path, length = Path(machine, one), Path(machine, other), len(one)
    left, right = one_path.tells(0, place, length), other_path.tells(0, place, length)
    if one == other:
        # There are no other gaps, so a value must differ.
        one_spot, other_spot = None, change
    else:
        one_spot = other_spot = parting_spots(left, right)[0]
    one_data, other_data = one_path.made_data(one_spot), other_path.made_data(other_spot)
    return Trace(length, one_data, other_data, place, told_at(left, one_spot), told_at(right, other_spot))


def _machine(formula):
    """The machine of a formula that can be asked about here."""
    check_formula(formula)
    check_heaviness((formula, formula))
    return Machine((formula,))
