"""The refusals of the program (point 6)."""


class SheafError(ValueError):
    """Any refusal."""


class NoDay(SheafError):
    """What was handed in is no day."""


class NoDeed(SheafError):
    """What was handed in is no number of a deed of the book."""


class NoAct(SheafError):
    """What was handed in is no number of an act of the book, or of one that has no paper yet."""


class NoEntry(SheafError):
    """What was handed in is no entry of the book's folk."""


class NoName(SheafError):
    """An entry names what the book does not have."""


class TooMany(SheafError):
    """The book is full."""


class Missing(SheafError):
    """The book has no entry of this number."""


class NoForms(SheafError):
    """What was handed in are no forms."""


class NoDraft(SheafError):
    """What was handed in is no draft."""


class NoCopy(SheafError):
    """What was handed in is no copy."""


class NoSize(SheafError):
    """What was handed in is no number of pages."""


class NoWords(SheafError):
    """What was handed in are no words of copies."""


class NoFolk(SheafError):
    """What was handed in is no folk."""


class NoAge(SheafError):
    """What was handed in is no age."""


class NothingDone(SheafError):
    """There is no deed left to undo."""


class NoText(SheafError):
    """What was handed in is no text of a book."""


class NoRow(SheafError):
    """What was handed in is no row that the desk knows."""


class Twice(SheafError):
    """The book has an entry of this number already."""

    def __init__(self, at):
        super().__init__("the book has an entry of this number already")
        self.at = at


class Named(SheafError):
    """Another entry names the one to be left out."""

    def __init__(self, by):
        super().__init__("another entry names this one")
        self.by = by
