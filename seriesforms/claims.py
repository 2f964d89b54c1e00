"""The claims that the checker reads."""

from seriesforms.errors import AnswerError, GivenError, NameProblem
from seriesforms.formulas import Formula
from seriesforms.limits import MOST_LEVELS
from seriesforms.naming import is_name
from seriesforms.reading import read

# With how many texts each word stands.
TEXTS = {"same": 2, "within": 2, "full": 1, "unlike": 2}
# Covers look at each choice of the letters that have a gap.
MOST_GAPPED = 6


def read_claim(claim):
    """The word, the tuple of the letters and the tuple of the formulas of a claim; None for what is no claim."""
    if not isinstance(claim, tuple) or len(claim) < 2 or not isinstance(claim[0], str):
        return None
    if claim[0] not in TEXTS or len(claim) != 2 + TEXTS[claim[0]]:
        return None
    letters = _letters_of(claim[1])
    if letters is None or len([letter for letter in letters if not letter.full]) > MOST_GAPPED:
        return None
    formulas = [_formula_of(text, letters) for text in claim[2:]]
    if None in formulas:
        return None
    used = {letter.name: True for formula in formulas for letter in formula.letters}
    if len(used) < len(letters):
        return None
    return claim[0], letters, tuple(formulas)


def _letters_of(pairs):
    """The letters that are named, ascending by their names; None if the pairs are not as they must be."""
    if not isinstance(pairs, tuple):
        return None
    letters = []
    for pair in pairs:
        if not isinstance(pair, tuple) or len(pair) != 2 or not is_name(pair[0]):
            return None
        if pair[1] is not True and pair[1] is not False:
            return None
        if letters and letters[-1].name >= pair[0]:
            return None
        letters.append(Formula.letter(pair[0], pair[1]))
    return tuple(letters)


def _formula_of(text, letters):
    """The formula with just this text and without `<<`; None if there is none."""
    if not isinstance(text, str) or "<<" in text or _is_too_deep(text):
        return None
    try:
        formula = read(text, letters)
    except (GivenError, NameProblem, AnswerError):
        return None
    return formula if str(formula) == text else None


def _is_too_deep(text):
    """Whether more brackets stand within one another than the text of a formula can have."""
    deep = 0
    for sign in text:
        if sign == "(":
            deep += 1
        elif sign == ")":
            deep -= 1
        if deep > MOST_LEVELS:
            return True
    return False
