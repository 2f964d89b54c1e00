"""Series: rows of entries, which are numbers or gaps."""

from seriesforms.errors import InvalidEntries, InvalidText
from seriesforms.ratios import Ratio, as_ratio, is_number

GAP = "_"


class Series:
    """A row of numbers and gaps; it never changes."""

    def __init__(self, entries):
        if not isinstance(entries, tuple):
            raise InvalidEntries(entries)
        for entry in entries:
            if entry is not None and not is_number(entry):
                raise InvalidEntries(entries)
        self._entries = tuple([None if entry is None else as_ratio(entry) for entry in entries])

    @classmethod
    def read(cls, text):
        """The series with this text."""
        if not isinstance(text, str):
            raise InvalidText(text)
        if text == "":
            return cls(())
        return cls(tuple([_read_entry(word, text) for word in text.split(" ")]))

    @property
    def entries(self):
        """The entries: Ratios, and None for gaps."""
        return self._entries

    @property
    def missing(self):
        """The places with a gap, ascending."""
        return tuple([place for place, entry in enumerate(self._entries) if entry is None])

    def __len__(self):
        return len(self._entries)

    def __eq__(self, other):
        return isinstance(other, Series) and self._entries == other.entries

    def __str__(self):
        return " ".join([GAP if entry is None else str(entry) for entry in self._entries])

    def __repr__(self):
        return f"Series({str(self)!r})"


def _read_entry(word, text):
    """The entry with this text, which is a piece of the whole text."""
    if word == GAP:
        return None
    try:
        return Ratio.read(word)
    except InvalidText:
        raise InvalidText(text) from None
