"""Machines: what formulas remember of the places before, and what they tell of the next ones.

A *root* is one of the formulas that are asked about. A machine reads a series place by place. At each place it goes
by a *pattern*, the tuple that has 1 for each letter with a gap, otherwise 0; patterns have indexes, which ascend as
they do.
"""

from math import lcm

from seriesforms.alphabets import merged_letters, patterns_of
from seriesforms.cells import Cells
from seriesforms.rows import Rows
from seriesforms.terms import nothing, put_in, unknown


class Machine:
    """The machine of some formulas together."""

    def __init__(self, roots, counted=True, alphabet=None):
        """If it is not `counted`, each entry stands for 0, and only the gaps are told.

        The alphabet has all letters of the roots, ascending by their names; there may be further ones.
        """
        self.alphabet = merged_letters(roots) if alphabet is None else alphabet
        names = [letter.name for letter in self.alphabet]
        self.patterns = patterns_of(self.alphabet)
        self._weights = _weights(self.alphabet)
        self.leads = [root.lead for root in roots]
        self._cells = Cells(names)
        self._rows = Rows(names, self._cells)
        self._roots = [self._cells.cell(root) for root in roots]
        self._sums = [self._rows.entry(root) for root in roots] if counted else None
        self._states = []
        self._state_indexes = {}
        self._moves = []
        self._endings = []
        self._maps = []
        self._map_indexes = {}
        self._effects = {}
        self._tails = {}

    def start(self):
        """The index of the state ahead of the first place."""
        return self.state_of(self._cells.start())

    def state_of(self, content):
        """The index of the state that is made of this; it is the same for all machines with the same roots."""
        if content not in self._state_indexes:
            self._state_indexes[content] = len(self._states)
            self._states.append(content)
            self._moves.append({})
            self._endings.append(None)
        return self._state_indexes[content]

    def content(self, state):
        """What the state with this index is made of."""
        return self._states[state]

    def row_length(self):
        """The number of the coordinates of rows."""
        return self._rows.row_length()

    def letters_there(self, pattern):
        """The indexes of the letters that are there in the pattern with this index."""
        return [index for index, gap in enumerate(self.patterns[pattern]) if gap == 0]

    def with_gap(self, pattern, letter):
        """The index of the pattern in which this letter, which is there and not full, has a gap, too."""
        return pattern + self._weights[letter]

    def move(self, state, pattern):
        """The index of the state that comes when this pattern is read, and the map of the row."""
        known = self._moves[state].get(pattern)
        if known is None:
            present = sum([1 << index for index in self.letters_there(pattern)])
            moved, told = self._cells.step(self._states[state], present, -1)
            known = (self.state_of(moved), self._map(told, -1))
            self._moves[state][pattern] = known
        return known

    def ending(self, state):
        """What is told if the series ends in this state.

        There is a tuple for each number of places that could be read beyond the end, from 0 on; it has for each root
        the sum that it tells then, or None for a gap. A root tells as many entries as its lead says.
        """
        if self._endings[state] is None:
            self._endings[state] = self._ending(state)
        return self._endings[state]

    def _ending(self, state):
        values, maps = self._states[state], []
        for beyond in range(max(self.leads)):
            values, told = self._cells.step(values, 0, beyond)
            maps.append(self._map(told, beyond))
        key = tuple([found.index for found in maps])
        if key not in self._tails:
            self._tails[key] = _told_from(maps)
        return self._tails[key]

    def _map(self, told, ended):
        key = (ended, told)
        if key not in self._map_indexes:
            index = len(self._maps)
            self._map_indexes[key] = index
            self._maps.append(self._new_map(told, index))
        return self._maps[self._map_indexes[key]]

    def _new_map(self, told, index):
        if self._sums is None:
            return Map(index, 0, tuple([nothing() if told[cell] else None for cell in self._roots]), [unknown(0)])
        sums, row = self._rows.step(told)
        entries = [sums[entry] if told[cell] else None for cell, entry in zip(self._roots, self._sums)]
        key = tuple([_as_key(terms) for terms in row])
        effect = self._effects.setdefault(key, len(self._effects))
        return Map(index, effect, tuple(entries), row)


class Map:
    """What one place makes of a row."""

    def __init__(self, index, effect, told, row):
        """`told` has what each root tells, None for a gap; `row` has what each coordinate becomes.

        Maps of one machine with the same `effect` have the same `row`.
        """
        self.index = index
        self.effect = effect
        self.told = told
        self.row = row
        self.scale = 1
        for terms in row:
            self.scale = lcm(self.scale, terms[0])
        self._columns = {}
        for coordinate, (bottom, multiples) in enumerate(row):
            for source, many in multiples.items():
                pair = (coordinate, many * (self.scale // bottom))
                self._columns.setdefault(source, []).append(pair)
        self.used = _entries_in(list(row) + [terms for terms in told if terms is not None])

    def image(self, row):
        """What this row becomes, times the scale; unknowns that are no coordinates are left out."""
        result = {}
        for source, worth in row.items():
            for coordinate, many in self._columns.get(source, ()):
                total = result.get(coordinate, 0) + worth * many
                result[coordinate] = total
        return {coordinate: total for coordinate, total in result.items() if total != 0}

    def with_entries(self, rows):
        """The rows, and for each entry that plays a part a row in which it is 1 and all else 0."""
        return rows + [{entry: 1} for entry in self.used]


def _weights(alphabet):
    """By how much the index of a pattern grows if a letter gets a gap."""
    weights = []
    weight = 1
    for letter in alphabet[::-1]:
        weights.append(0 if letter.full else weight)
        if not letter.full:
            weight = weight * 2
    return weights[::-1]


def _as_key(terms):
    return terms[0], tuple(sorted(list(terms[1].items())))


def _entries_in(sums):
    """The unknowns that stand for entries in these sums."""
    found = {}
    for terms in sums:
        for source in terms[1]:
            if source < 0:
                found[source] = True
    return list(found)


def _told_from(maps):
    """What is told at places one behind the other, as sums over the row ahead of the first one."""
    result = []
    row = None
    for found in maps:
        if row is None:
            result.append(found.told)
            row = found.row
        else:
            result.append(tuple([None if terms is None else put_in(terms, row) for terms in found.told]))
            row = [put_in(terms, row) for terms in found.row]
    return result
