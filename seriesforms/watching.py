"""Questions that set what is told of a place against what is told of the same place later.

In the states of these questions a machine either reads on, or it also keeps in mind what has been told of one place,
a gap or an entry, until the place is told again: then they are set against one another. So a state is a triple: that
of the machine; how many places must still be read until then, or 0 if nothing is kept in mind; and 1 if an entry is
kept in mind, which is one more number of the row, otherwise 0.
"""

from math import gcd

from seriesforms.terms import difference, dot, unknown

# Greater than each coordinate of a machine.
KEPT = 1000000


class Watch:
    """What both questions have in common; `late` is the root that tells a place again."""

    def __init__(self, machine, late):
        self._machine = machine
        self._late = late
        self._known = {}
        self.patterns = len(machine.patterns)

    def start(self):
        """The state ahead of the first place."""
        return self._machine.start(), 0, 0

    def step(self, state, rows, pattern, first, front):
        """Reads one place; tells whether something fails there."""
        at, wait, there = state
        moved, found = self._machine.move(at, pattern)
        sources = found.with_entries(rows) if first else rows
        if wait == 0:
            return self.read_on(moved, found, sources, front)
        if wait == 1:
            return _any_differs(self._kept_against(found, there), sources)
        for source in sources:
            image = found.image(source)
            if KEPT in source:
                image[KEPT] = source[KEPT] * found.scale
            front.take((moved, wait - 1, there), image)
        return False

    def close(self, state, rows, front):
        """Tells whether something fails if the series ends."""
        at, wait, there = state
        ending = self._machine.ending(at)
        if wait == 0:
            return self.read_all(at, ending, rows, front)
        return _any_differs(self.judged(_kept(there), ending[wait - 1][self._late]), rows)

    def _kept_against(self, found, there):
        """By which multiples what is kept in mind differs from what is told; it is asked for again and again."""
        key = (found.index, there)
        if key not in self._known:
            self._known[key] = self.judged(_kept(there), found.told[self._late])
        return self._known[key]


class Comparison(Watch):
    """Whether two roots have unlike entries at a place.

    If it goes `within`, only places count at which the first root has an entry.
    """

    def __init__(self, machine, within):
        self._within = within
        self._early = 0 if machine.leads[0] <= machine.leads[1] else 1
        self._wait = machine.leads[1 - self._early] - machine.leads[self._early]
        super().__init__(machine, 1 - self._early)

    def judged(self, early, late):
        """By which multiples what the earlier root tells of a place differs from what the later one does."""
        if self._early == 0:
            return unlike(early, late, self._within)
        return unlike(late, early, self._within)

    def read_on(self, moved, found, sources, front):
        """Reads a place while nothing is kept in mind; from there on what is told can be kept, too."""
        if self._wait == 0 and _any_differs(self._told_against(found), sources):
            return True
        for source in sources:
            front.take((moved, 0, 0), found.image(source))
        if self._wait > 0:
            early = found.told[self._early]
            there = 0 if early is None else 1
            for source in sources:
                front.take((moved, self._wait, there), _image_with(found, early, source))
        return False

    def read_all(self, at, ending, rows, front):
        """Whether something fails among what both roots still tell."""
        for beyond in range(self._machine.leads[self._early]):
            early = ending[beyond][self._early]
            late = ending[beyond + self._wait][self._late]
            if _any_differs(self.judged(early, late), rows):
                return True
        return False

    def _told_against(self, found):
        key = (found.index, 2)
        if key not in self._known:
            self._known[key] = self.judged(found.told[self._early], found.told[self._late])
        return self._known[key]


class Leaking(Watch):
    """Whether the only root tells of a place something else if the series ends `count` places behind it."""

    def __init__(self, machine, count):
        self._wait = machine.leads[0] - count
        super().__init__(machine, 0)

    def judged(self, early, late):
        """By which multiples what is told of a place if the series ends there differs from what is told else."""
        return unlike(early, late, False)

    def read_on(self, moved, found, sources, front):
        """Reads a place while nothing is kept in mind."""
        for source in sources:
            front.take((moved, 0, 0), found.image(source))
        return False

    def read_all(self, at, ending, rows, front):
        """Keeps in mind what would be told now if the series ended; this itself never fails."""
        early = ending[self._wait - 1][0]
        for row in rows:
            if early is None:
                front.take((at, self._wait, 0), row)
            else:
                kept = {coordinate: many * early[0] for coordinate, many in row.items()}
                kept[KEPT] = dot(early[1], row)
                front.take((at, self._wait, 1), _without_zero(kept))
        return False


def unlike(left, right, within):
    """By which multiples two entries differ; None if nothing can differ, and those of 1 if just one is a gap."""
    if left is None:
        return None if right is None or within else {0: 1}
    if right is None:
        return {0: 1}
    multiples = difference(left, right)
    return multiples if multiples else None


def _kept(there):
    return unknown(KEPT) if there == 1 else None


def _any_differs(multiples, rows):
    if multiples is None:
        return False
    return any([dot(multiples, row) != 0 for row in rows])


def _image_with(found, early, source):
    """The image of the row, with what is told there as one more number."""
    image = found.image(source)
    if early is None:
        return image
    times = early[0] // gcd(early[0], found.scale)
    kept = {coordinate: many * times for coordinate, many in image.items()}
    kept[KEPT] = dot(early[1], source) * (found.scale * times // early[0])
    return _without_zero(kept)


def _without_zero(row):
    """The row, from which the number that is kept in mind is left out if it is 0."""
    if row[KEPT] == 0:
        del row[KEPT]
    return row
