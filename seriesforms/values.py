"""The series that a formula gives for data."""

from seriesforms.columns import column
from seriesforms.errors import InvalidData, InvalidLength, NoSeries
from seriesforms.formulas import check_formula
from seriesforms.ratios import is_whole
from seriesforms.series import Series


def value(formula, data, length):
    """The series of this length that the formula gives for the data."""
    check_formula(formula)
    if not isinstance(data, dict):
        raise InvalidData(data)
    if not is_whole(length) or length < 0:
        raise InvalidLength(length)
    for letter in formula.letters:
        if not _fits(data.get(letter.name), letter, length):
            raise NoSeries(letter.name)
    return Series(tuple(column(formula, data, length)))


def _fits(series, letter, length):
    """Whether this is a Series of the length, without gaps if the letter is full."""
    if not isinstance(series, Series) or len(series) != length:
        return False
    return not letter.full or series.missing == ()
