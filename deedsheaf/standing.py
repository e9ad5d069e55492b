"""Which acts are in force and what each deed is, on a day, as known on a day (points 21 and 22)."""

from deedsheaf.books import DAY, NUMBER, OF, RESTS, WORD, WRITTEN, act_entries, deed_entries
from deedsheaf.checks import check_act, check_day, check_deed

# What a deed may be for another one that rests on it not to fall.
CARRYING = ("stands", "paid")


def open_acts(book, d, k):
    """The acts of a book that are open, as entries, by their numbers."""
    return [act for act in act_entries(book) if act[WRITTEN] <= k and act[DAY] <= d]


def acts_on(acts, word, number):
    """The numbers of those of these acts that have this word and are of this number."""
    return [act[NUMBER] for act in acts if act[WORD] == word and act[OF] == number]


def acts_in_force(acts):
    """Those of the open acts, given by their numbers, that are in force."""
    forced = []
    # An undone has a greater number than what it is of, so it is settled ahead of that.
    for act in acts[::-1]:
        if not acts_on(forced, "undone", act[NUMBER]):
            forced.append(act)
    return forced


def word_of_deed(deed, forced, words, d, k):
    """What a deed, as an entry, is; words tells it of the deeds of lesser numbers."""
    if deed[WRITTEN] > k:
        return "unknown"
    if deed[DAY] > d:
        return "ahead"
    if acts_on(forced, "void", deed[NUMBER]):
        return "void"
    if any([words[rest] not in CARRYING for rest in deed[RESTS]]):
        return "fallen"
    if acts_on(forced, "paid", deed[NUMBER]):
        return "paid"
    return "stands"


def in_force(book, act, d, k=9999):
    """Whether an act is in force."""
    check_act(book, act)
    check_day(d)
    check_day(k)
    return act in [forced[NUMBER] for forced in acts_in_force(open_acts(book, d, k))]


def standing_of(book, deed, d, k=9999):
    """What a deed is."""
    check_deed(book, deed)
    return all_standing(book, d, k)[deed]


def all_standing(book, d, k=9999):
    """A dict of what each deed is, by its number."""
    check_day(d)
    check_day(k)
    forced = acts_in_force(open_acts(book, d, k))
    words = {}
    # What a deed rests on has a lesser number, so it is settled ahead of the deed.
    for entry in deed_entries(book):
        words[entry[NUMBER]] = word_of_deed(entry, forced, words, d, k)
    return words
