"""What several tests have in common: checks of errors, plain calculations, and searches through all small data."""

import itertools
import unittest
from fractions import Fraction

from seriesforms.errors import AnswerError, GivenError, NameProblem
from seriesforms.formulas import Formula
from seriesforms.ratios import Ratio
from seriesforms.series import Series
from seriesforms.values import value

FORTY = 1234567890123456789012345678901234567890


class Odd:
    """A value that is equal to nothing, not even to itself, and neither true nor false."""

    def __eq__(self, other):
        return False

    def __bool__(self):
        raise RuntimeError("asked for its truth")


class Same:
    """A value that says that it is equal to all."""

    def __eq__(self, other):
        return True


ODD = Odd()
# Values of all kinds that are neither numbers nor formulas nor series nor dicts nor strings.
STRANGE = [None, True, False, b"x", (), (1,), ("x",), [], ["x"], {1}, set(), object(), ODD, Same(), int, Formula, len]
NO_FORMULAS = [*STRANGE, 0, 1, FORTY, Ratio(1, 2), "x", "", {}, {"x": 1}, Series(())]
NO_NUMBERS = [*STRANGE, "1", "", {}, Series((1,))]
NO_INTEGERS = [*NO_NUMBERS, Ratio(1), Ratio(0), Ratio(1, 2)]


class Kit(unittest.TestCase):
    def refused(self, error, worth, action, *arguments, **named):
        """That the call raises this very class of errors, its attribute being this very object, or the same number."""
        with self.assertRaises((GivenError, NameProblem, AnswerError)) as context:
            action(*arguments, **named)
        found = context.exception
        self.assertIs(type(found), error)
        [kept] = vars(found).values()
        if isinstance(worth, (int, str)):
            self.assertIs(type(kept), type(worth))
            self.assertEqual(kept, worth)
        else:
            self.assertIs(kept, worth)


def letters_of(*formulas):
    """The letters of the formulas, ascending by their names."""
    known = {letter.name: letter for formula in formulas for letter in formula.letters}
    return [known[name] for name in sorted(known)]


def heaviness(*formulas):
    """The product and the sum of point 10 for formulas that are taken together."""
    load = 1 + max(formula.lead for formula in formulas)
    for formula in formulas:
        load *= formula.load
    load *= 2 ** len([letter for letter in letters_of(*formulas) if not letter.full])
    return load, sum(formula.width for formula in formulas)


def too_heavy(*formulas):
    """The limit that formulas taken together go beyond, or None."""
    load, width = heaviness(*formulas)
    return 65536 if load > 65536 else 64 if width > 64 else None


def fraction(number):
    """A Ratio, or None, as one of Python's own fractions."""
    return None if number is None else Fraction(number.top, number.bottom)


class Plain:
    """A plain calculation that goes by the table of the document, place by place."""

    def __init__(self, data, length):
        """The data are lists of fractions and None."""
        self.data = data
        self.length = length
        self.known = {}

    def entries(self, formula):
        return [self.at(formula, place) for place in range(self.length)]

    def at(self, formula, place):
        key = (str(formula), place)
        if key not in self.known:
            self.known[key] = self._at(formula, place)
        return self.known[key]

    def there(self, formula, first, last):
        """The entries that are there at these places, both included."""
        found = [self.at(formula, place) for place in range(max(0, first), last + 1)]
        return [entry for entry in found if entry is not None]

    def last(self, formula, place):
        """The last place up to this one at which the formula is there, or None."""
        places = [earlier for earlier in range(place + 1) if self.at(formula, earlier) is not None]
        return max(places, default=None)

    def _at(self, formula, t):
        kind = formula.kind
        numbers = [fraction(number) if isinstance(number, Ratio) else number for number in formula.numbers]
        if kind == "letter":
            return self.data[formula.name][t]
        if kind == "constant":
            return numbers[0]
        if kind == "clock":
            return Fraction(t)
        a = formula.parts[0]
        here = self.at(a, t)
        if kind in ("sum", "difference", "either", "both", "since"):
            return self._over_two(kind, a, formula.parts[1], t)
        if kind == "later":
            return None if t < numbers[0] else self.at(a, t - numbers[0])
        if kind == "sooner":
            return None if t + numbers[0] >= self.length else self.at(a, t + numbers[0])
        if kind in ("moving", "average"):
            found = self.there(a, t - numbers[0] + 1, t)
            if len(found) < numbers[1]:
                return None
            return sum(found, Fraction(0)) / (len(found) if kind == "average" else 1)
        if kind == "tally":
            return Fraction(len(self.there(a, t - numbers[0] + 1, t)))
        if kind == "gaps":
            return Fraction(1 if here is None else 0)
        if kind in ("filled", "age"):
            last = self.last(a, t)
            if last is None:
                return None
            return self.at(a, last) if kind == "filled" else Fraction(t - last)
        if here is None:
            return None
        if kind == "scaled":
            return numbers[0] * here
        if kind == "total":
            first = t - t % numbers[0] if numbers[0] else 0
            return sum(self.there(a, first, t), Fraction(0))
        if kind == "smooth":
            earlier = self.last(a, t - 1)
            return here if earlier is None else numbers[0] * here + (1 - numbers[0]) * self.at(formula, earlier)
        if kind == "season":
            return here if t % numbers[0] == numbers[1] else None
        if kind == "head":
            return here if t < numbers[0] else None
        assert kind == "rest"
        return None if t < numbers[0] else here

    def _over_two(self, kind, a, b, t):
        one, two = self.at(a, t), self.at(b, t)
        if kind == "either":
            return two if one is None else one
        if kind == "since":
            last = self.last(b, t)
            return None if last is None else sum(self.there(a, last, t), Fraction(0))
        if one is None or two is None:
            return None
        return {"sum": one + two, "difference": one - two, "both": one}[kind]


def plain_value(formula, data, length):
    """The fractions that the formula has for data of Series, by the plain calculation."""
    rows = {letter.name: [fraction(entry) for entry in data[letter.name].entries] for letter in formula.letters}
    return Plain(rows, length).entries(formula)


def patterns(letters, length):
    """All patterns of this length, ascending."""
    places = list(itertools.product(*[(0,) if letter.full else (0, 1) for letter in letters]))
    return itertools.product(places, repeat=length)


def data_with(letters, pattern, spot=None):
    """The data with this pattern whose entries are 0, but for a 1 at the spot, a pair of a place and an index."""
    found = {}
    for index, letter in enumerate(letters):
        row = [1 if spot == (place, index) else 0 for place in range(len(pattern))]
        found[letter.name] = Series(tuple(None if pattern[place][index] else row[place] for place in range(len(row))))
    return found


def cut(data, length):
    """The data cut to their first places."""
    return {name: Series(row.entries[:length]) for name, row in data.items()}


def told(letters, pattern, action):
    """What `action` gives for data with this pattern: for each of its entries None, or a constant and multiples.

    As the entries depend linearly on those of the data, they are told by data with a single 1 at most.
    """
    plain = action(data_with(letters, pattern))
    found = [None if entry is None else (fraction(entry), {}) for entry in plain]
    for place in range(len(pattern)):
        for index in range(len(letters)):
            if not pattern[place][index]:
                for at, entry in enumerate(action(data_with(letters, pattern, (place, index)))):
                    if entry is not None and entry != plain[at]:
                        found[at][1][place, index] = fraction(entry) - found[at][0]
    return found


def parting_spot(left, right):
    """None if two entries that are told are equal, otherwise a list of one spot, or of None if no 1 is needed."""
    if left is None and right is None:
        return None
    if left is None or right is None or left[0] != right[0]:
        return [None]
    spots = sorted(set(left[1]) | set(right[1]))
    return next(([spot] for spot in spots if left[1].get(spot, 0) != right[1].get(spot, 0)), None)


def entries_of(formula, data, length):
    return value(formula, data, length).entries


def searched_parting(formula, other, most, within=False):
    """The parting with a length up to `most`, or None, by a search: length, data, place, left, right."""
    letters = letters_of(formula, other)
    for length in range(most + 1):
        for pattern in patterns(letters, length):
            one = told(letters, pattern, lambda data: entries_of(formula, data, length))
            two = told(letters, pattern, lambda data: entries_of(other, data, length))
            for place in range(length):
                spot = parting_spot(one[place], two[place])
                if spot and not (within and one[place] is None):
                    data = data_with(letters, pattern, spot[0])
                    left = entries_of(formula, data, length)[place]
                    return length, data, place, left, entries_of(other, data, length)[place]
    return None


def searched_leak(formula, count, most):
    """The leak with a length up to `most`, or None, by a search: length, data, place, whole, short."""
    letters = letters_of(formula)

    def short(data, length):
        cuts = [(place, place + count + 1) for place in range(length - count)]
        return [entries_of(formula, cut(data, stop), stop)[place] for place, stop in cuts]

    for length in range(most + 1):
        for pattern in patterns(letters, length):
            one = told(letters, pattern, lambda data: entries_of(formula, data, length))
            two = told(letters, pattern, lambda data: short(data, length))
            for place in range(length - count):
                spot = parting_spot(one[place], two[place])
                if spot:
                    data = data_with(letters, pattern, spot[0])
                    whole = entries_of(formula, data, length)[place]
                    return length, data, place, whole, short(data, length)[place]
    return None


def searched_back(formula, most):
    """The least m for which no data of lengths up to `most` show that the formula looks back further."""
    letters = letters_of(formula)
    least = 0
    for length in range(1, most + 1):
        rows = [
            (pattern, told(letters, pattern, lambda data: entries_of(formula, data, length)))
            for pattern in patterns(letters, length)
        ]
        for place in range(length):
            while least < place and _looks_further(rows, place, place - least):
                least += 1
    return least


def _looks_further(rows, place, first):
    """Whether the entry at the place does not depend only on what stands at the place `first` and behind it."""
    known = {}
    for pattern, entries in rows:
        entry = entries[place]
        if entry is not None:
            if any(spot[0] < first for spot in entry[1]):
                return True
            entry = (entry[0], tuple(sorted(entry[1].items())))
        if known.setdefault(pattern[first:], entry) != entry:
            return True
    return False


def searched_gap(formula, most):
    """The gap with a length up to `most`, or None, by a search: length, data, place."""
    letters = letters_of(formula)
    for length in range(most + 1):
        for pattern in patterns(letters, length):
            data = data_with(letters, pattern)
            missing = value(formula, data, length).missing
            if missing:
                return length, data, missing[0]
    return None


def searched_starts(formula, most):
    """The pair (w, v) of the formula as far as lengths up to `most` tell, or None."""
    missing = []
    for length in range(most + 1):
        data = {letter.name: Series((0,) * length) for letter in formula.letters}
        missing += [(length, place) for place in value(formula, data, length).missing]
    for distance in range(formula.lead + 1):
        first = max([place + 1 for length, place in missing if place < length - distance], default=0)
        # If gaps go on up to the longest data, there is no place from which on there are none.
        if first < most // 2:
            return first, distance
    return None


def random_formula(random, letters, depth):
    """A formula over these letters with at most `depth` steps within one another."""
    if depth == 0 or random.random() < 0.12:
        simple = [*letters * 4, Formula.clock(), Formula.constant(random.choice([0, 1, -1, 2, Ratio(1, 2)]))]
        return random.choice(simple)
    try:
        return _random_step(random, letters, depth)
    except AnswerError:
        return random.choice(letters)


def _random_step(random, letters, depth):
    def inner():
        return random_formula(random, letters, depth - 1)

    wide, modulus = random.randint(2, 3), random.randint(2, 4)
    steps = [
        lambda: inner() + inner(),
        lambda: inner() - inner(),
        lambda: random.choice([0, 1, -1, 2, Ratio(1, 2), Ratio(-2, 3)]) * inner(),
        lambda: inner() >> random.randint(1, 3),
        lambda: inner() >> random.randint(1, 3),
        lambda: inner() << random.randint(1, 3),
        lambda: inner() << random.randint(1, 3),
        lambda: inner() | inner(),
        lambda: inner() & inner(),
        lambda: inner().total(),
        lambda: inner().total(modulus),
        lambda: inner().moving(wide, random.randint(1, wide)),
        lambda: inner().average(wide, random.randint(1, wide)),
        lambda: inner().smooth(random.choice([0, 1, -1, 2, Ratio(1, 2), Ratio(1, 3)])),
        lambda: inner().filled(),
        lambda: inner().since(inner()),
        lambda: inner().season(modulus, random.randint(0, modulus - 1)),
        lambda: inner().head(random.randint(1, 3)),
        lambda: inner().rest(random.randint(1, 3)),
        lambda: inner().gaps(),
        lambda: inner().tally(wide),
        lambda: inner().age(),
    ]
    return random.choice(steps)()
