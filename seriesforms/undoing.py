"""Series of letters from those that formulas have made of them."""

from seriesforms.errors import InvalidNumber, NotASeries, NotUndoable, NoWay
from seriesforms.formulas import check_formula
from seriesforms.machines import Machine
from seriesforms.ratios import as_ratio, is_number
from seriesforms.running import Running
from seriesforms.series import Series
from seriesforms.together import check_heaviness


class Undoer:
    """Tells the entries of the only letter of a formula from those of the formula."""

    def __init__(self, formula):
        check_formula(formula)
        self._running = Running(_undoable_machine(formula))
        self._fed = 0

    @property
    def fed(self):
        """The number of entries that have been fed."""
        return self._fed

    def feed(self, entry):
        """The entry of the letter at the next place, if that of the formula is this one."""
        if not is_number(entry):
            raise InvalidNumber(entry)
        found = self._running.entry_for(as_ratio(entry))
        self._running.step([found])
        self._fed += 1
        return found


def undone(formula, series):
    """The series of the letter from which the formula makes this one."""
    check_formula(formula)
    if not isinstance(series, Series):
        raise NotASeries(series)
    undoer = Undoer(formula)
    if series.missing != ():
        raise NoWay(series.missing[0])
    return Series(tuple([undoer.feed(entry) for entry in series.entries]))


def _undoable_machine(formula):
    """The machine of the formula, unless this has no way back."""
    if [letter.full for letter in formula.letters] != [True]:
        raise NotUndoable("letters", None)
    if formula.lead != 0:
        raise NotUndoable("lead", None)
    check_heaviness((formula,))
    machine = Machine((formula,))
    told = _told_in_turn(machine)
    if None in told:
        raise NotUndoable("gap", told.index(None))
    for place, (_, multiples) in enumerate(told):
        if -1 not in multiples:
            raise NotUndoable("still", place)
    return machine


def _told_in_turn(machine):
    """What is told at the places of a series without gaps, up to the place behind which all comes again."""
    told, seen = [], {}
    state = machine.start()
    while state not in seen:
        seen[state] = True
        state, found = machine.move(state, 0)
        told.append(found.told[0])
    return told
