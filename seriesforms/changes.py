"""What a change of one entry of one letter does to the entries of a formula at later places.

Two data are set against one another that differ in one entry of one letter at one place: either its value differs, or
it is there in one of them only. (If no such change alters what a formula tells of a place, several of them do not
alter it, either.) Behind this place both go on alike. The state of both is a pair of states of the machine, the lesser
one first. If it is the same one twice, the row is the difference of both rows. Otherwise it is both rows together.
"""

from seriesforms.searching import Front
from seriesforms.terms import combined, dot
from seriesforms.watching import unlike

# Greater than each coordinate of a machine: with it those of the second row begin.
SECOND = 1000000


class Changes:
    """The changes of one entry, for the only root of a machine."""

    def __init__(self, machine):
        self._machine = machine
        self.patterns = len(machine.patterns)
        self.horizon = machine.leads[0]
        self._reached = None
        self._choices = {}
        self._ways = {}
        self._checks = {}

    def reached(self):
        """How the machine reaches its states: tuples (index of the one before, pattern, state, new rows)."""
        if self._reached is None:
            self._reached = self._reach()
        return self._reached

    def _reach(self):
        front = Front()
        front.take(self._machine.start(), {0: 1})
        found = [(None, None, self._machine.start(), [{0: 1}])]
        seen = {}
        at = 0
        while at < len(found):
            state, rows = found[at][2], found[at][3]
            for pattern, _ in self.ways((state, state)):
                front.forget()
                moved, step = self._machine.move(state, pattern)
                for source in rows if state in seen else step.with_entries(rows):
                    front.take(moved, step.image(source))
                for fresh_state, fresh in front.fresh():
                    found.append((at, pattern, fresh_state, fresh))
            seen[state] = True
            at += 1
        return found

    def ways(self, pair):
        """Patterns that do different things to a pair of states and its rows, each with the pair that comes then.

        Of those that do the same only the first one is told.
        """
        if pair not in self._ways:
            known = {}
            for pattern in range(self.patterns):
                one, one_step = self._machine.move(pair[0], pattern)
                other, other_step = self._machine.move(pair[1], pattern)
                following = (one, other) if one <= other else (other, one)
                known.setdefault((one, one_step.effect, other, other_step.effect), (pattern, following))
            self._ways[pair] = list(known.values())
        return self._ways[pair]

    def choices(self, state):
        """The changes that matter in this state: triples of a pattern, a letter, and the pattern set against it.

        Both patterns are the same one if the value of the letter changes, otherwise the letter has a gap in the second
        one. If several changes do the same, only the first one is told.
        """
        if state not in self._choices:
            known = {}
            for pattern in range(self.patterns):
                for letter in self._machine.letters_there(pattern):
                    self._choose(state, (pattern, letter, pattern), known)
                    if not self._machine.alphabet[letter].full:
                        self._choose(state, (pattern, letter, self._machine.with_gap(pattern, letter)), known)
            self._choices[state] = list(known.values())
        return self._choices[state]

    def _choose(self, state, choice, known):
        """Adds a change to those known, unless it leaves no mark."""
        pattern, letter, changed = choice
        one, one_step = self._machine.move(state, pattern)
        other, other_step = self._machine.move(state, changed)
        if one == other and one_step.effect == other_step.effect and -1 - letter not in one_step.used:
            return
        key = (letter, one, one_step.effect, other, other_step.effect)
        if key not in known:
            known[key] = choice

    def begin(self, state, rows, choice, front):
        """Reads the place of the change."""
        pattern, letter, changed = choice
        one = self._machine.move(state, pattern)
        if pattern == changed:
            front.take((one[0], one[0]), one[1].image({-1 - letter: 1}))
            return
        other = self._machine.move(state, changed)
        for source in _with_entries(rows, one[1], other[1]):
            without = {unknown: many for unknown, many in source.items() if unknown != -1 - letter}
            self._take(one, source, other, without, front)

    def step(self, pair, rows, pattern, front):
        """Reads a place behind that of the change."""
        one = self._machine.move(pair[0], pattern)
        if pair[0] == pair[1]:
            for row in rows:
                front.take((one[0], one[0]), one[1].image(row))
            return
        other = self._machine.move(pair[1], pattern)
        for source in _with_entries(rows, one[1], other[1]):
            self._take(one, _first(source), other, _second(source), front)

    def fails_reading(self, pair, rows):
        """The first pattern for which reading it tells unlike entries, or None."""
        for pattern, multiples in self._reading_checks(pair):
            if _fails(multiples, rows):
                return pattern
        return None

    def _reading_checks(self, pair):
        """By which multiples differs what is told by reading on: pairs of a pattern and multiples, each only once."""
        if pair not in self._checks:
            known = {}
            for pattern in range(self.patterns):
                one, other = [self._machine.move(state, pattern)[1].told[0] for state in pair]
                multiples = _unlike(pair, one, other)
                if multiples is not None:
                    known.setdefault(tuple(sorted(list(multiples.items()))), (pattern, multiples))
            self._checks[pair] = list(known.values())
        return self._checks[pair]

    def fails_ending(self, pair, rows, beyond):
        """Whether unlike entries are told beyond the end by so many places."""
        one, other = [self._machine.ending(state)[beyond][0] for state in pair]
        multiples = _unlike(pair, one, other)
        return multiples is not None and _fails(multiples, rows)

    def _take(self, one, one_row, other, other_row, front):
        """Gives the pair of the images of two rows to the front; both moves are pairs of a state and a map."""
        one_image = _times(one[1].image(one_row), other[1].scale)
        other_image = _times(other[1].image(other_row), one[1].scale)
        if one[0] == other[0]:
            front.take((one[0], one[0]), combined(one_image, 1, other_image, -1))
        elif one[0] < other[0]:
            front.take((one[0], other[0]), combined(one_image, 1, _shifted(other_image), 1))
        else:
            front.take((other[0], one[0]), combined(other_image, 1, _shifted(one_image), 1))


def _with_entries(rows, one, other):
    """The rows, and for each entry that plays a part in one of two maps a row in which it is 1 and all else 0."""
    return rows + [{entry: 1} for entry in one.used + [entry for entry in other.used if entry not in one.used]]


def _unlike(pair, one, other):
    """By which multiples of the row of the pair differs what is told of both data; None if nothing can differ."""
    if pair[0] != pair[1]:
        return unlike(one, None if other is None else (other[0], _shifted(other[1])), False)
    if one is None:
        return None
    # Both have the same entries at the place that is read; only what the rows differ in can make a difference.
    return {index: many for index, many in one[1].items() if index >= 0}


def _fails(multiples, rows):
    """Whether there is a difference for one of the rows, or with an entry at the place that is read."""
    return min(multiples, default=0) < 0 or any([dot(multiples, row) != 0 for row in rows])


def _times(row, times):
    return {index: many * times for index, many in row.items()}


def _shifted(multiples):
    """The same for the second row; entries at the place that is read are the same for both."""
    return {index if index < 0 else index + SECOND: many for index, many in multiples.items()}


def _first(source):
    return {index: many for index, many in source.items() if index < SECOND}


def _second(source):
    found = {}
    for index, many in source.items():
        if index >= SECOND:
            found[index - SECOND] = many
        elif index < 0:
            found[index] = many
    return found
