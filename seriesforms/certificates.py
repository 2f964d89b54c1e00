"""Claims about formulas with certificates that the checker accepts."""

from seriesforms.alphabets import merged_letters
from seriesforms.claims import MOST_GAPPED
from seriesforms.covers import make_cover
from seriesforms.errors import NoWay
from seriesforms.formulas import check_formula
from seriesforms.places import gap
from seriesforms.plain import PlainMachine
from seriesforms.sameness import breach, parting

# What is told in the place of the index of a formula if there are too many letters with gaps.
TOO_MANY_GAPPED = 2


def certify(formula, other):
    """A claim that both are the same, or that they are unlike, with its certificate."""
    _check_ways((formula, other))
    found = parting(formula, other)
    if found is None:
        return _covered("same", (formula, other))
    data = found.data
    rows = tuple([_pairs_of(data[letter.name]) for letter in merged_letters((formula, other))])
    return _claim("unlike", (formula, other)), (found.length, rows)


def certify_within(formula, other):
    """A claim that the first formula is within the other one, with its certificate; or None."""
    _check_ways((formula, other))
    if breach(formula, other) is not None:
        return None
    return _covered("within", (formula, other))


def certify_full(formula):
    """A claim that the formula never has a gap, with its certificate; or None."""
    _check_ways((formula,))
    if gap(formula) is not None:
        return None
    return _covered("full", (formula,))


def _check_ways(formulas):
    """Refuses formulas about which the checker reads no claims."""
    for formula in formulas:
        check_formula(formula)
    for index, formula in enumerate(formulas):
        if "<<" in str(formula):
            raise NoWay(index)
    gapped = {letter.name: True for formula in formulas for letter in formula.letters if not letter.full}
    if len(gapped) > MOST_GAPPED:
        raise NoWay(TOO_MANY_GAPPED)


def _claim(word, formulas):
    letters = tuple([(letter.name, letter.full) for letter in merged_letters(formulas)])
    return (word, letters) + tuple([str(formula) for formula in formulas])


def _covered(word, formulas):
    """The claim with this word, which is true, and the cover that shows it."""
    letters = merged_letters(formulas)
    return _claim(word, formulas), make_cover(PlainMachine(formulas, letters), letters)


def _pairs_of(series):
    """The entries of a series as the checker reads them."""
    return tuple([None if entry is None else (entry.top, entry.bottom) for entry in series.entries])
