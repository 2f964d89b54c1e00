"""What some formulas tell of one place, gathered over all data and all places at which all of them have an entry.

A machine reads on, or it keeps in mind what its roots tell of one place, one after the other as their leads say, until
the last one has told. So a state is a pair: that of the machine, and how many places must still be read until then, or
0 if nothing is kept in mind. What is kept in mind are further numbers of the row, one for each root that has told.
"""

from math import lcm

from seriesforms.searching import Front
from seriesforms.spans import Span
from seriesforms.terms import dot

# Greater than each coordinate of a machine; what a root has told is kept that much behind its index.
KEPT = 1000000


def told_together(machine):
    """A Span: for each place with all entries the dict from the indexes of the roots to what they tell, if not 0."""
    gathering = Gathering(machine)
    front = Front()
    front.take((machine.start(), 0), {0: 1})
    seen = {}
    waiting = front.fresh()
    # As soon as the Span has all that there is, nothing new can come.
    while waiting and len(gathering.found.basis()) < len(machine.leads):
        front.forget()
        for state, rows in waiting:
            gathering.close(state, rows)
            for pattern in gathering.ways(state[0]):
                gathering.step(state, rows, pattern, state not in seen, front)
            seen[state] = True
        waiting = front.fresh()
    return gathering.found


class Gathering:
    """Gathers what the roots of a machine tell."""

    def __init__(self, machine):
        self._machine = machine
        self._least = min(machine.leads)
        self._most = max(machine.leads)
        self._ways = {}
        self.found = Span()

    def ways(self, state):
        """Patterns that do different things in this state of the machine; of those that do the same the first."""
        if state not in self._ways:
            known = {}
            for pattern in range(len(self._machine.patterns)):
                moved, found = self._machine.move(state, pattern)
                known.setdefault((moved, found.index), pattern)
            self._ways[state] = list(known.values())
        return self._ways[state]

    def step(self, state, rows, pattern, first, front):
        """Reads one place; if it is the `first` time for this state, also with all entries there."""
        at, wait = state
        moved, found = self._machine.move(at, pattern)
        sources = found.with_entries(rows) if first else rows
        if wait == 0:
            for source in sources:
                front.take((moved, 0), found.image(source))
        lead = self._least if wait == 0 else self._most - wait + 1
        told = {root: found.told[root] for root in self._with_leads(lead, lead)}
        if None in list(told.values()):
            return
        if lead == self._most:
            self._keep(told, sources)
            return
        scale = _scale(told, found.scale)
        for source in sources:
            front.take((moved, self._most - lead), _image_with(found, told, source, scale))

    def close(self, state, rows):
        """What is told if the series ends; each place of which the first root has not told yet may be the place."""
        at, wait = state
        ending = self._machine.ending(at)
        if wait > 0:
            self._close_at(ending, wait - 1 - self._most, self._most - wait + 1, rows)
        else:
            for beyond in range(self._least):
                self._close_at(ending, beyond - self._least, self._least, rows)

    def _close_at(self, ending, place, least, rows):
        """What is told of this place, which is counted from the end, by roots with this lead or a greater one."""
        told = {root: ending[place + self._machine.leads[root]][root] for root in self._with_leads(least, self._most)}
        if None not in list(told.values()):
            self._keep(told, rows)

    def _keep(self, told, sources):
        """Keeps what all roots have told for these rows."""
        scale = _scale(told, 1)
        for source in sources:
            self.found.keep(_kept(told, source, scale))

    def _with_leads(self, least, most):
        """The indexes of the roots with such leads."""
        return [root for root, lead in enumerate(self._machine.leads) if least <= lead <= most]


def _kept(told, source, scale):
    """What has been told and what is told now for this row, by the indexes of the roots, times the scale."""
    kept = {index - KEPT: many * scale for index, many in source.items() if index >= KEPT}
    for root, (bottom, multiples) in told.items():
        kept[root] = dot(multiples, source) * (scale // bottom)
    return {root: many for root, many in kept.items() if many != 0}


def _image_with(found, told, source, scale):
    """The image of the row times the scale, with what is kept in mind."""
    image = {index: many * (scale // found.scale) for index, many in found.image(source).items()}
    for root, many in _kept(told, source, scale).items():
        image[root + KEPT] = many
    return image


def _scale(told, scale):
    """The least multiple of the scale with which all that is told consists of integers."""
    for bottom, _ in told.values():
        scale = lcm(scale, bottom)
    return scale
