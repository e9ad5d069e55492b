"""Pages put in late: books with an entry more or less, and what parts two books (points 51 and 52)."""

from deedsheaf.books import DAY, MOST_ENTRIES, NUMBER, OF, RESTS, WORD, deeds_of, is_entry, is_whole, names_fit
from deedsheaf.checks import check_day
from deedsheaf.courses import days_at
from deedsheaf.errors import Missing, Named, NoEntry, NoName, TooMany, Twice
from deedsheaf.standing import all_standing


def named_in(entry):
    """The numbers that an entry names."""
    if entry[WORD] == "deed":
        return entry[RESTS]
    return (entry[OF],)


def with_entry(book, entry):
    """The book with one entry more, behind the others."""
    folk, age, entries = book
    if not is_entry(folk, entry):
        raise NoEntry("this is no entry of the book's folk")
    words = {other[NUMBER]: other[WORD] for other in entries}
    if entry[NUMBER] in words:
        raise Twice(entry[NUMBER])
    if not names_fit(words, entry):
        raise NoName("the entry names what the book does not have")
    if len(entries) >= MOST_ENTRIES:
        raise TooMany("the book has as many entries as it may")
    return (folk, age, entries + (entry,))


def without_entry(book, number):
    """The book without the entry of this number, the others as they stand."""
    folk, age, entries = book
    # True and False equal 1 and 0, so being in the list is not enough.
    if not is_whole(number) or number not in [entry[NUMBER] for entry in entries]:
        raise Missing("the book has no entry of this number")
    naming = [entry[NUMBER] for entry in entries if number in named_in(entry)]
    if naming:
        raise Named(min(naming))
    return (folk, age, tuple([entry for entry in entries if entry[NUMBER] != number]))


def first_parting(deed, days, ones, others):
    """The tuple (deed, day, one, other) of the first day on which two books part, in a list, empty where none is."""
    for day, one, other in zip(days, ones, others):
        if one[deed] != other[deed]:
            return [(deed, day, one[deed], other[deed])]
    return []


def parting_of(book, other, k=9999):
    """What parts two books: each deed of both that is not always the same, with the first day on which it is not."""
    check_day(k)
    days = sorted(set(days_at(book, DAY) + days_at(other, DAY)))
    ones = [all_standing(book, day, k) for day in days]
    others = [all_standing(other, day, k) for day in days]
    shared = deeds_of(other)
    partings = []
    for deed in deeds_of(book):
        if deed in shared:
            partings.extend(first_parting(deed, days, ones, others))
    return partings


def late_of(book, entry, k=9999):
    """What parts the book from the one with this entry."""
    return parting_of(book, with_entry(book, entry), k)
