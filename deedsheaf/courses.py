"""What a deed is as days go by, and as known days go by (points 41 and 42)."""

from deedsheaf.books import DAY, LAST_DAY, WRITTEN
from deedsheaf.checks import check_day, check_deed
from deedsheaf.standing import all_standing


def days_at(book, place):
    """Day 0 and the days that the entries of a book have at this place, rising, each once."""
    # Between two of these days nothing can turn, so no other day needs a look.
    return sorted(set([0] + [entry[place] for entry in book[2]]))


def turns_among(days, words):
    """The tuples (day, word) of the first day and of each day with another word than the one listed ahead."""
    turns = []
    for day, word in zip(days, words):
        if not turns or turns[-1][1] != word:
            turns.append((day, word))
    return turns


def course_of(book, deed, k=9999):
    """The course of a deed: what it is on day 0, and on each day on which it turns."""
    check_deed(book, deed)
    check_day(k)
    days = days_at(book, DAY)
    return turns_among(days, [all_standing(book, day, k)[deed] for day in days])


def learned_of(book, deed, d):
    """What was learned of a deed: what it is as known on day 0, and on each known day on which it turns."""
    check_deed(book, deed)
    check_day(d)
    days = days_at(book, WRITTEN)
    return turns_among(days, [all_standing(book, d, known)[deed] for known in days])


def last_stand(book, deed, k=9999):
    """The last day on which a deed stands, None where there is none."""
    course = course_of(book, deed, k)
    ends = [day - 1 for day, word in course[1:]] + [LAST_DAY]
    stands = [end for turn, end in zip(course, ends) if turn[1] == "stands"]
    if not stands:
        return None
    return stands[-1]
