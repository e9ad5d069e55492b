"""The refusals that all modules share: what is no day, no deed, no act (point 6)."""

from deedsheaf.books import acts_of, deeds_of, is_day, is_whole
from deedsheaf.errors import NoAct, NoDay, NoDeed


def check_day(thing):
    """Refuse what is no day."""
    if not is_day(thing):
        raise NoDay("a day is a whole number from 0 to 9999")


def check_deed(book, thing):
    """Refuse what is no number of a deed of the book."""
    # True and False equal 1 and 0, so being in the list is not enough.
    if not is_whole(thing) or thing not in deeds_of(book):
        raise NoDeed("the book has no deed of this number")


def check_act(book, thing):
    """Refuse what is no number of an act of the book."""
    if not is_whole(thing) or thing not in acts_of(book):
        raise NoAct("the book has no act of this number")
