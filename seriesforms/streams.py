"""Formulas that are run place by place."""

from seriesforms.alphabets import merged_letters
from seriesforms.couples import Couple, joined_row, least_parting
from seriesforms.errors import Ended, InvalidData, NoEntry, NotARunner
from seriesforms.formulas import check_formula
from seriesforms.machines import Machine
from seriesforms.ratios import as_ratio, is_number
from seriesforms.running import Running
from seriesforms.series import Series
from seriesforms.together import check_pair


class Runner:
    """A formula on its way through a series; what it tells is the series of the formula."""

    def __init__(self, formula):
        check_formula(formula)
        self._formula = formula
        self._running = Running(Machine((formula,)))
        self._fed = 0
        self._ended = False

    @property
    def formula(self):
        """The formula that is run."""
        return self._formula

    @property
    def fed(self):
        """The number of places that have been fed."""
        return self._fed

    @property
    def ended(self):
        """Whether the runner is ended."""
        return self._ended

    def __call__(self, entries):
        return self.feed(entries)

    def feed(self, entries):
        """Feeds the entries of the next place; what comes back is the tuple of what is told then."""
        if self._ended:
            raise Ended()
        if not isinstance(entries, dict):
            raise InvalidData(entries)
        told = self._running.step(_entries_of(self._formula.letters, entries))
        self._fed += 1
        if self._fed <= self._formula.lead:
            return ()
        return (told,)

    def end(self):
        """Ends the runner; what comes back is the tuple of the rest."""
        if self._ended:
            raise Ended()
        self._ended = True
        return tuple(self._running.tail()[self._formula.lead - self._owed():])

    def twin(self):
        """A new runner in the same state."""
        twin = Runner(self._formula)
        twin._go_on(self._running.twin(), self._fed, self._ended)
        return twin

    def _go_on(self, running, fed, ended):
        """Goes on from what another runner of the same formula has come to."""
        self._running = running
        self._fed = fed
        self._ended = ended

    def _owed(self):
        """The number of places that have been fed, but not told."""
        return min(self._fed, self._formula.lead)

    def parting(self, other):
        """The length and the data of the parting from another runner, or None if both are alike."""
        if not isinstance(other, Runner):
            raise NotARunner(other)
        if self._ended or other.ended:
            raise Ended()
        check_pair(self._formula, other.formula)
        letters = merged_letters((self._formula, other.formula))
        if self._owed() != other._owed():
            return 0, {letter.name: Series(()) for letter in letters}
        return self._least_parting(other, letters)

    def _least_parting(self, other, letters):
        """The parting from another runner that owes as many places."""
        one, two = self._running, other._running
        if self._formula == other.formula and one.content() == two.content() and one.whole_row() == two.whole_row():
            return None
        machines = [Machine((self._formula,), True, letters)]
        machines.append(machines[0] if other.formula == self._formula else Machine((other.formula,), True, letters))
        states = (machines[0].state_of(one.content()), machines[1].state_of(two.content()))
        shift = machines[0].row_length() - 1
        row = joined_row(one.whole_row(), two.whole_row(), shift)
        return least_parting(Couple(machines, states, shift), row, self._owed())


def _entries_of(letters, entries):
    """The entries of these letters, in their order."""
    found = []
    for letter in letters:
        if letter.name not in entries:
            raise NoEntry(letter.name)
        entry = entries[letter.name]
        if entry is None and letter.full or entry is not None and not is_number(entry):
            raise NoEntry(letter.name)
        found.append(None if entry is None else as_ratio(entry))
    return found
