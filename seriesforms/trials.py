"""The `with` statements in which a sheet is tried."""


class Mark:
    """What a sheet held when a `with` statement began; `outer` is the mark of the one around it."""

    def __init__(self, draft, outer):
        self.draft = draft
        self.outer = outer


class Trial:
    """Gives the sheet back what it held ahead of the rows if these end with an exception."""

    def __init__(self, sheet):
        self._sheet = sheet
        self._mark = None

    def __enter__(self):
        self._mark = Mark(self._sheet.draft, self._mark)
        return self._sheet

    def __exit__(self, kind, value, trace):
        if kind is not None:
            self._sheet.draft = self._mark.draft
        self._mark = self._mark.outer
