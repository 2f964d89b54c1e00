"""Two machines side by side, each of which goes on from a state of its own, and what parts them."""

from seriesforms.machines import Map
from seriesforms.paths import Path, parting_spots
from seriesforms.searching import Front, first_failing
from seriesforms.watching import Comparison


class Couple:
    """Two machines with one root each and one alphabet, as one machine with two roots."""

    def __init__(self, machines, states, shift):
        """It begins with these states; `shift` is what the coordinates of the second machine are moved by."""
        self._machines = machines
        self._moved_by = shift
        self.alphabet = machines[0].alphabet
        self.patterns = machines[0].patterns
        self.leads = [machine.leads[0] for machine in machines]
        self._states = [states]
        self._state_indexes = {states: 0}
        self._maps = {}
        self._endings = {}

    def start(self):
        """The index of the pair of states in which it begins."""
        return 0

    def move(self, state, pattern):
        """The index of the pair of states that comes when this pattern is read, and the map of the row."""
        one, two = self._states[state]
        one_moved, one_map = self._machines[0].move(one, pattern)
        two_moved, two_map = self._machines[1].move(two, pattern)
        pair = (one_moved, two_moved)
        if pair not in self._state_indexes:
            self._state_indexes[pair] = len(self._states)
            self._states.append(pair)
        return self._state_indexes[pair], self._joined(one_map, two_map)

    def ending(self, state):
        """What is told if the series ends in this state, as machines with two roots tell it."""
        if state not in self._endings:
            one, two = [machine.ending(part) for machine, part in zip(self._machines, self._states[state])]
            told = []
            for beyond in range(max(self.leads)):
                left = one[beyond][0] if beyond < self.leads[0] else None
                right = two[beyond][0] if beyond < self.leads[1] else None
                told.append((left, self._shifted(right)))
            self._endings[state] = told
        return self._endings[state]

    def _joined(self, one, two):
        key = (one.index, two.index)
        if key not in self._maps:
            told = (one.told[0], self._shifted(two.told[0]))
            row = one.row + [self._shifted(terms) for terms in two.row[1:]]
            self._maps[key] = Map(len(self._maps), 0, told, row)
        return self._maps[key]

    def _shifted(self, terms):
        """The sum over the coordinates of the second machine; the number 1 and the entries are in common."""
        if terms is None:
            return None
        return terms[0], {index + self._moved_by if index > 0 else index: many for index, many in terms[1].items()}


def joined_row(one, two, shift):
    """A multiple of both rows together; they have integers, and both stand for 1 by their first coordinate."""
    row = {index: many * two[0] for index, many in one.items()}
    for index, many in two.items():
        if index > 0:
            row[index + shift] = many * one[0]
    return row


def least_parting(couple, row, owed):
    """The length and the data of the least parting of both machines, or None if they always tell equal entries.

    Both owe as many entries of places read before. They tell them in turn, and those of the places that come.
    """
    question = Comparison(couple, False)
    patterns = []
    # Here the data without any place can part, too.
    if not question.close(question.start(), [row], Front()):
        patterns = first_failing(question, row)
    if patterns is None:
        return None
    path, length = Path(couple, patterns, row), len(patterns)
    spots = []
    # What both tell without the last place would have parted them before.
    for place in range(max(-owed, length - 1 - max(couple.leads)), length):
        spots.extend(parting_spots(path.tells(0, place, length), path.tells(1, place, length)))
    return length, path.made_data(None if None in spots else min(spots))
