"""Sums of multiples of formulas that are always 0."""

from seriesforms.errors import InvalidCount
from seriesforms.gathering import told_together
from seriesforms.machines import Machine
from seriesforms.ratios import Ratio
from seriesforms.together import check_together


def relations(*formulas):
    """The reduced basis of the relations between the formulas."""
    if formulas == ():
        raise InvalidCount(0)
    check_together(formulas)
    return _reduced_basis(formulas)


def combined(formula, *formulas):
    """The numbers by which the others must be multiplied so that their sum is the formula, or None."""
    together = (formula, *formulas)
    check_together(together)
    basis = _reduced_basis(together)
    # Only the first relation of the basis can tell of the first formula, by its pivot.
    if basis == () or basis[0][0] == 0:
        return None
    return tuple([-number for number in basis[0][1:]])


def _reduced_basis(formulas):
    many = len(formulas)
    solved = _solved(told_together(Machine(formulas)).basis(), many)
    return tuple([_relation(solved, index, many) for index in range(many) if index not in solved])


def _relation(solved, pivot, many):
    """The relation that has 1 at this index and 0 at those of all other pivots."""
    numbers = []
    for index in range(many):
        if index in solved:
            numbers.append(-solved[index][pivot])
        else:
            numbers.append(Ratio(1 if index == pivot else 0))
    return tuple(numbers)


def _solved(rows, many):
    """Rows that span the same, by their last indexes: each has 1 there, where all others have 0.

    The rows are dicts from indexes to integers; those that come back are lists of Ratios.
    """
    waiting = [[Ratio(row.get(index, 0)) for index in range(many)] for row in rows]
    solved = {}
    for index in range(many - 1, -1, -1):
        places = [place for place, row in enumerate(waiting) if row[index] != 0]
        if places:
            row = waiting.pop(places[0])
            scaled = [number.over(row[index]) for number in row]
            waiting = [_cleared(other, scaled, index) for other in waiting]
            solved = {last: _cleared(other, scaled, index) for last, other in solved.items()}
            solved[index] = scaled
    return solved


def _cleared(row, scaled, index):
    """The row less that multiple of the scaled one with which it has 0 at the index."""
    times = row[index]
    if times == 0:
        return row
    return [number - times * other for number, other in zip(row, scaled)]
