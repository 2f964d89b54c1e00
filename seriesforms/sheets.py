"""Sheets: formulas under names, together with claims about them that hold after each change."""

from seriesforms.drafts import Draft, Kept, Wording, all_made, claims_made
from seriesforms.errors import Circular, InUse, InvalidClaim, InvalidIndex, InvalidName, InvalidTruth
from seriesforms.errors import NothingToUndo, Taken, UnknownName
from seriesforms.formulas import Formula
from seriesforms.naming import is_name
from seriesforms.parsing import parse
from seriesforms.ratios import is_whole
from seriesforms.trials import Trial

# With how many texts each word stands in a claim, and whether a number comes behind them.
FORMS = {"same": (2, False), "within": (2, False), "ahead": (1, True), "back": (1, True), "full": (1, False)}
MOST_PLACES = 60


class Sheet:
    """Letters, definitions and claims; a change that is refused alters nothing."""

    def __init__(self):
        # All that the sheet holds stands in one object that never changes, so that it can be taken back as a whole.
        self.draft = Draft({}, {}, {}, (), None)

    @property
    def letters(self):
        """The letters, ascending by their names."""
        return tuple([self.draft.alphabet[name] for name in sorted(list(self.draft.alphabet))])

    @property
    def names(self):
        """The names of definitions, ascending."""
        return tuple(sorted(list(self.draft.definitions)))

    @property
    def claims(self):
        """The claims as they were given."""
        return tuple([claim.given for claim in self.draft.kept])

    @property
    def changes(self):
        """The number of changes that can be taken back."""
        return self.draft.passed

    def __getitem__(self, at):
        if at not in self:
            raise UnknownName(at)
        return self.draft.formulas[at]

    def __setitem__(self, at, worth):
        self.define(at, worth)

    def __contains__(self, x):
        return isinstance(x, str) and x in self.draft.formulas

    def __len__(self):
        return len(self.draft.definitions)

    def __bool__(self):
        return True

    def __iter__(self):
        raise TypeError("a sheet is not iterated over")

    def text(self, name):
        """The text of a definition."""
        if not isinstance(name, str) or name not in self.draft.definitions:
            raise UnknownName(name)
        return self.draft.definitions[name].written

    def add(self, name, full=False):
        """Adds a letter."""
        if not is_name(name):
            raise InvalidName(name)
        if full is not True and full is not False:
            raise InvalidTruth(full)
        if name in self:
            raise Taken(name)
        letter = Formula.letter(name, full)
        draft = self.draft
        alphabet, formulas = _with(draft.alphabet, name, letter), _with(draft.formulas, name, letter)
        self.draft = Draft(alphabet, draft.definitions, formulas, draft.kept, draft)

    def define(self, name, text):
        """Adds a definition, also in the place of one with this name."""
        if not is_name(name):
            raise InvalidName(name)
        draft = self.draft
        if name in draft.alphabet:
            raise Taken(name)
        wording = Wording(text, parse(text))
        self._check_known([needed for needed in wording.needs if needed != name])
        definitions = _with(draft.definitions, name, wording)
        if _needs(definitions, wording, name):
            raise Circular(name)
        formulas = all_made(draft.alphabet, definitions)
        self.draft = Draft(draft.alphabet, definitions, formulas, claims_made(draft.kept, formulas), draft)

    def drop(self, name):
        """Takes a letter or a definition away."""
        if name not in self:
            raise UnknownName(name)
        draft = self.draft
        for user in self.names:
            if name in draft.definitions[user].needs:
                raise InUse(user)
        for claim in draft.kept:
            if any([name in wording.needs for wording in claim.wordings]):
                raise InUse(None)
        alphabet, definitions = _but(draft.alphabet, name), _but(draft.definitions, name)
        self.draft = Draft(alphabet, definitions, _but(draft.formulas, name), draft.kept, draft)

    def claim(self, claim):
        """Adds a claim behind the others."""
        wordings = []
        for text in _texts_of(claim):
            wording = Wording(text, parse(text))
            self._check_known(wording.needs)
            wordings.append(wording)
        draft = self.draft
        kept = claims_made(draft.kept + (Kept(claim, wordings, None),), draft.formulas)
        self.draft = Draft(draft.alphabet, draft.definitions, draft.formulas, kept, draft)

    def lift(self, index):
        """Takes the claim with this index away."""
        draft = self.draft
        if not is_whole(index) or index < 0 or index >= len(draft.kept):
            raise InvalidIndex(index)
        kept = draft.kept[:index] + draft.kept[index + 1:]
        self.draft = Draft(draft.alphabet, draft.definitions, draft.formulas, kept, draft)

    def undo(self):
        """Takes back the last change."""
        if self.draft.earlier is None:
            raise NothingToUndo()
        self.draft = self.draft.earlier

    def trial(self):
        """For a `with` statement: if its rows end with an exception, the sheet is as it was ahead of it."""
        return Trial(self)

    def tried(self, action):
        """What the function returns for the sheet; if it raises anything, the sheet is as it was."""
        with self.trial() as sheet:
            return action(sheet)

    def _check_known(self, needed):
        for name in needed:
            if name not in self:
                raise UnknownName(name)


def _with(table, name, value):
    """A copy of the dict, in which the value stands under this name."""
    copied = dict(table)
    copied[name] = value
    return copied


def _but(table, name):
    """A copy of the dict without this name."""
    return {other: value for other, value in table.items() if other != name}


def _needs(definitions, wording, name):
    """Whether the wording needs this name, itself or by way of other definitions."""
    seen, waiting = {}, list(wording.needs)
    while waiting:
        needed = waiting.pop()
        if needed == name:
            return True
        if needed in definitions and needed not in seen:
            seen[needed] = True
            waiting.extend(definitions[needed].needs)
    return False


def _texts_of(claim):
    """The texts in a claim, which can be any objects, if it is a tuple of one of the forms."""
    if not isinstance(claim, tuple) or len(claim) < 1 or not isinstance(claim[0], str) or claim[0] not in FORMS:
        raise InvalidClaim(claim)
    many, numbered = FORMS[claim[0]]
    if len(claim) != 1 + many + (1 if numbered else 0):
        raise InvalidClaim(claim)
    if numbered and (not is_whole(claim[2]) or claim[2] < 0 or claim[2] > MOST_PLACES):
        raise InvalidClaim(claim)
    return claim[1:1 + many]
