"""Formulas of time series."""

from seriesforms.alphabets import least_clash, merged_letters
from seriesforms.errors import Clash, InvalidCount, InvalidName, InvalidNumber, InvalidTruth, NotAFormula, TooLarge
from seriesforms.limits import MOST_LEAD, MOST_LEVELS, MOST_SEASON, MOST_SHIFT, MOST_SIZE, MOST_WINDOW
from seriesforms.measures import full_of, lead_of, levels_of, load_of, size_of, width_of
from seriesforms.naming import is_name
from seriesforms.ratios import as_ratio, is_number, is_whole

SIGNS = {"sum": "+", "difference": "-", "either": "|", "both": "&", "later": ">>", "sooner": "<<"}


class Formula:
    """A formula; it is made by class methods, by operators and by methods, and it never changes."""

    def __init__(self, kind, parts, numbers, name=None, full=False):
        self._kind = kind
        self._parts = parts
        self._numbers = numbers
        self._name = name
        self._full = full or full_of(kind, parts, numbers)
        self._inner = merged_letters(parts)
        self._size = size_of(parts)
        self._levels = levels_of(parts)
        self._lead = lead_of(kind, parts, numbers)
        self._load = load_of(kind, parts, numbers)
        self._width = width_of(kind, parts, numbers)
        self._text = _text_of(kind, [str(part) for part in parts], [str(number) for number in numbers], name)

    @classmethod
    def letter(cls, name, full=False):
        """The letter with this name."""
        if not is_name(name):
            raise InvalidName(name)
        if full is not True and full is not False:
            raise InvalidTruth(full)
        return cls("letter", (), (), name, full)

    @classmethod
    def constant(cls, number):
        """The formula that has this number at each place."""
        if not is_number(number):
            raise InvalidNumber(number)
        return cls("constant", (), (as_ratio(number),))

    @classmethod
    def clock(cls):
        """The formula that has the place at each place."""
        return cls("clock", (), ())

    @property
    def kind(self):
        """The word for the last step."""
        return self._kind

    @property
    def parts(self):
        """The formulas of which this one is made."""
        return self._parts

    @property
    def numbers(self):
        """What the last step has beside the parts."""
        return self._numbers

    @property
    def name(self):
        """The name of a letter, otherwise None."""
        return self._name

    @property
    def full(self):
        """Whether the text tells that there is never a gap."""
        return self._full

    @property
    def letters(self):
        """The letters of the formula, ascending by their names."""
        if self._kind == "letter":
            return (self,)
        return self._inner

    @property
    def size(self):
        """The number of letters, constants, clocks and steps."""
        return self._size

    @property
    def levels(self):
        """How many formulas stand within one another at most."""
        return self._levels

    @property
    def lead(self):
        """By how many places the formula may look ahead, as far as its text tells."""
        return self._lead

    @property
    def load(self):
        """The product of the factors of all steps."""
        return self._load

    @property
    def width(self):
        """How many numbers all of the steps and clocks remember."""
        return self._width

    def __add__(self, other):
        return _made_by_step("sum", (self, _as_formula(other)))

    def __radd__(self, other):
        return _made_by_step("sum", (_as_formula(other), self))

    def __sub__(self, other):
        return _made_by_step("difference", (self, _as_formula(other)))

    def __rsub__(self, other):
        return _made_by_step("difference", (_as_formula(other), self))

    def __mul__(self, other):
        return _scaled_formula(other, self)

    def __rmul__(self, other):
        return _scaled_formula(other, self)

    def __neg__(self):
        return _scaled_formula(-1, self)

    def __rshift__(self, other):
        _check_count(other, 1, MOST_SHIFT)
        return _made_by_step("later", (self,), (other,))

    def __lshift__(self, other):
        _check_count(other, 1, MOST_SHIFT)
        return _made_by_step("sooner", (self,), (other,))

    def __or__(self, other):
        check_formula(other)
        return _made_by_step("either", (self, other))

    def __and__(self, other):
        check_formula(other)
        return _made_by_step("both", (self, other))

    def __eq__(self, other):
        if not isinstance(other, Formula) or self._text != str(other):
            return False
        return [letter.full for letter in self.letters] == [letter.full for letter in other.letters]

    def __str__(self):
        return str(self._text)

    def __repr__(self):
        return f"Formula({self._text!r})"

    def total(self, every=0):
        """The sum since the beginning, or since the last place that is a multiple of `every`."""
        if not is_whole(every) or every != 0:
            _check_count(every, 2, MOST_SEASON)
        return _made_by_step("total", (self,), (every,))

    def moving(self, wide, least=1):
        """The sum over the last places, if enough entries are there."""
        _check_count(wide, 2, MOST_WINDOW)
        _check_count(least, 1, wide)
        return _made_by_step("moving", (self,), (wide, least))

    def average(self, wide, least=1):
        """The average over the last places, if enough entries are there."""
        _check_count(wide, 2, MOST_WINDOW)
        _check_count(least, 1, wide)
        return _made_by_step("average", (self,), (wide, least))

    def smooth(self, weight):
        """The smoothed series, in which a new entry counts with this weight."""
        if not is_number(weight):
            raise InvalidNumber(weight)
        return _made_by_step("smooth", (self,), (as_ratio(weight),))

    def filled(self):
        """The last entry that is there."""
        return _made_by_step("filled", (self,))

    def since(self, other):
        """The sum since the last place at which the other formula has an entry."""
        check_formula(other)
        return _made_by_step("since", (self, other))

    def season(self, modulus, remainder):
        """The entries at the places that leave this remainder."""
        _check_count(modulus, 2, MOST_SEASON)
        _check_count(remainder, 0, modulus - 1)
        return _made_by_step("season", (self,), (modulus, remainder))

    def head(self, count):
        """The entries at the first places."""
        _check_count(count, 1, MOST_SHIFT)
        return _made_by_step("head", (self,), (count,))

    def rest(self, count):
        """The entries behind the first places."""
        _check_count(count, 1, MOST_SHIFT)
        return _made_by_step("rest", (self,), (count,))

    def gaps(self):
        """1 where there is a gap, otherwise 0."""
        return _made_by_step("gaps", (self,))

    def tally(self, wide):
        """The number of entries that are there at the last places."""
        _check_count(wide, 2, MOST_WINDOW)
        return _made_by_step("tally", (self,), (wide,))

    def age(self):
        """The number of places since the last entry that is there."""
        return _made_by_step("age", (self,))


def check_formula(value):
    """Refuses what is no formula."""
    if not isinstance(value, Formula):
        raise NotAFormula(value)


def _check_count(value, least, most):
    if not is_whole(value) or value < least or value > most:
        raise InvalidCount(value)


def _as_formula(value):
    """The formula itself, or the constant for a number."""
    if is_number(value):
        return Formula.constant(value)
    check_formula(value)
    return value


def _scaled_formula(number, formula):
    if not is_number(number):
        raise InvalidNumber(number)
    return _made_by_step("scaled", (formula,), (as_ratio(number),))


def _made_by_step(kind, parts, numbers=()):
    """The formula that is made by this step, unless it is refused."""
    clash = least_clash(parts)
    if clash is not None:
        raise Clash(clash)
    formula = Formula(kind, parts, numbers)
    if formula.size > MOST_SIZE:
        raise TooLarge(MOST_SIZE)
    if formula.levels > MOST_LEVELS:
        raise TooLarge(MOST_LEVELS)
    if formula.lead > MOST_LEAD:
        raise TooLarge(MOST_LEAD)
    return formula


def _text_of(kind, parts, numbers, name):
    """The text of a formula, from those of its parts and numbers."""
    if kind == "letter":
        return name
    if kind == "constant":
        return numbers[0]
    if kind == "clock":
        return "clock"
    if kind == "scaled":
        return f"({numbers[0]} * {parts[0]})"
    if kind in SIGNS:
        left, right = parts + numbers
        return f"({left} {SIGNS[kind]} {right})"
    if kind == "total" and numbers[0] == "0":
        return f"total({parts[0]})"
    inner = ", ".join(parts + numbers)
    return f"{kind}({inner})"
