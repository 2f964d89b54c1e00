"""Which formulas can be taken together."""

from seriesforms.alphabets import least_clash, merged_letters
from seriesforms.errors import Clash, TooHeavy
from seriesforms.formulas import check_formula
from seriesforms.limits import MOST_LOAD, MOST_WIDTH


def check_pair(formula, other):
    """Refuses what cannot be asked about both formulas together."""
    check_together((formula, other))


def check_together(formulas):
    """Refuses what cannot be asked about all of these together, in their order."""
    for formula in formulas:
        check_formula(formula)
    clash = least_clash(formulas)
    if clash is not None:
        raise Clash(clash)
    check_heaviness(formulas)


def check_heaviness(formulas):
    """Refuses formulas that are too heavy together."""
    load = 1 + max([formula.lead for formula in formulas])
    for formula in formulas:
        load = load * formula.load
    for letter in merged_letters(formulas):
        if not letter.full:
            load = load * 2
    if load > MOST_LOAD:
        raise TooHeavy(MOST_LOAD)
    if sum([formula.width for formula in formulas]) > MOST_WIDTH:
        raise TooHeavy(MOST_WIDTH)
