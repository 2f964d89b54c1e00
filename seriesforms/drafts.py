"""What sheets hold: letters, definitions and claims, with the formulas that are made of them."""

from seriesforms.errors import Broken, InvalidCount, NotMade, TooHeavy, TooLarge
from seriesforms.looks import leak, trace
from seriesforms.places import gap
from seriesforms.reading import made_of, names_of
from seriesforms.sameness import breach, parting


class Draft:
    """What a sheet holds at one time, and what it held ahead of the last change; it never changes."""

    def __init__(self, alphabet, definitions, formulas, kept, earlier):
        """The first three are dicts from names; `kept` is a tuple of claims with their formulas."""
        self.alphabet = alphabet
        self.definitions = definitions
        self.formulas = formulas
        self.kept = kept
        self.earlier = earlier
        self.passed = 0 if earlier is None else earlier.passed + 1


class Wording:
    """A text that has been read."""

    def __init__(self, written, steps):
        self.written = written
        self.steps = steps
        self.needs = names_of(steps)


class Kept:
    """A claim as it was given, with its wordings and with their formulas."""

    def __init__(self, given, wordings, made):
        self.given = given
        self.wordings = wordings
        self.made = made


def all_made(alphabet, definitions):
    """The formulas of all names; a definition that others need is made ahead of these."""
    formulas = dict(alphabet)
    for name in sorted(list(definitions)):
        _make_into(formulas, name, definitions)
    return formulas


def _make_into(formulas, name, definitions):
    """Makes the formula of this name, unless it is there."""
    if name in formulas:
        return
    for needed in definitions[name].needs:
        _make_into(formulas, needed, definitions)
    try:
        formulas[name] = made_of(definitions[name].steps, formulas)
    except (InvalidCount, TooLarge) as error:
        raise NotMade(name) from error


def claims_made(kept, formulas):
    """The claims with their formulas made anew, if all of them hold."""
    made = [_claim_made(index, claim, formulas) for index, claim in enumerate(kept)]
    for index, claim in enumerate(made):
        # What held for the same formulas ahead of the change still holds.
        if claim.made != kept[index].made:
            _check_holds(index, claim)
    return tuple(made)


def _claim_made(index, claim, formulas):
    try:
        made = [made_of(wording.steps, formulas) for wording in claim.wordings]
    except (InvalidCount, TooLarge) as error:
        raise NotMade(index) from error
    return Kept(claim.given, claim.wordings, made)


def _check_holds(index, claim):
    """Refuses a claim that is too heavy, or that does not hold."""
    try:
        shown = _shown_against(claim.given, claim.made)
    except TooHeavy as error:
        raise NotMade(index) from error
    if shown is not None:
        raise Broken(index, shown)


def _shown_against(given, made):
    """What shows that a claim about these formulas does not hold; None if it does."""
    word = given[0]
    if word == "same":
        return parting(made[0], made[1])
    if word == "within":
        return breach(made[0], made[1])
    if word == "ahead":
        return leak(made[0], given[2])
    if word == "back":
        return trace(made[0], given[2])
    return gap(made[0])
