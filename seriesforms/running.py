"""Machines that read given entries, place by place."""

from math import lcm

from seriesforms.ratios import Ratio


class Running:
    """A machine with one root on its way through a series."""

    def __init__(self, machine):
        self._machine = machine
        self._state = machine.start()
        self._row = [Ratio(1)] + [Ratio(0)] * (machine.row_length() - 1)

    def twin(self):
        """Another one that goes on from here by itself."""
        twin = Running(self._machine)
        twin.go_on_as(self._state, self._row)
        return twin

    def go_on_as(self, state, row):
        """Goes on from this state of the same machine, with this row of numbers."""
        self._state = state
        self._row = row

    def step(self, entries):
        """Reads a place with these entries, one for each letter; what comes back is the entry that is told."""
        pattern = 0
        for letter, entry in enumerate(entries):
            if entry is None:
                pattern = self._machine.with_gap(pattern, letter)
        self._state, found = self._machine.move(self._state, pattern)
        told = self._worth(found.told[0], entries)
        self._row = [self._worth(terms, entries) for terms in found.row]
        return told

    def entry_for(self, told):
        """The entry of the only letter, which is full, at the next place, if the machine tells this number there."""
        bottom, multiples = self._machine.move(self._state, 0)[1].told[0]
        rest = self._worth((bottom, {index: many for index, many in multiples.items() if index >= 0}), [])
        return ((told - rest) * bottom).over(multiples[-1])

    def tail(self):
        """The entries that are told beyond the end, if the series ends here; there are as many as the lead says."""
        return [self._worth(told[0], []) for told in self._machine.ending(self._state)]

    def content(self):
        """What the state is made of."""
        return self._machine.content(self._state)

    def whole_row(self):
        """A multiple of the row of numbers that consists of integers, as a dict from the coordinates."""
        scale = 1
        for number in self._row:
            scale = lcm(scale, number.bottom)
        return {index: (number * scale).top for index, number in enumerate(self._row) if number != 0}

    def _worth(self, terms, entries):
        """What the sum is for the row and for these entries; None for a gap."""
        if terms is None:
            return None
        total = Ratio(0)
        for index, many in terms[1].items():
            total = total + many * (self._row[index] if index >= 0 else entries[-1 - index])
        return total.over(terms[0])
