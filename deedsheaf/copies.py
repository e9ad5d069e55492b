"""Whether a full copy says what a short draft said, or where they part (points 71, 72 and 73)."""

from deedsheaf.books import is_rising, is_whole
from deedsheaf.errors import NoCopy, NoDraft, NoForms

LONGEST_WORD = 8
MOST_FORMS = 8
MOST_FULLS = 3
MOST_FULL_WORDS = 3
MOST_DRAFT_WORDS = 12
MOST_COPY_WORDS = 30


def is_word(thing):
    """Whether a thing is a word."""
    if not isinstance(thing, str) or not 1 <= len(thing) <= LONGEST_WORD:
        return False
    return all(["a" <= sign <= "z" for sign in thing])


def are_words(thing, least, most):
    """Whether a thing is a tuple of at least and at most so many words."""
    if not isinstance(thing, tuple) or not least <= len(thing) <= most:
        return False
    return all([is_word(part) for part in thing])


def are_fulls(thing):
    """Whether a thing is what may stand behind a short."""
    if not isinstance(thing, tuple) or not 1 <= len(thing) <= MOST_FULLS:
        return False
    return all([are_words(full, 1, MOST_FULL_WORDS) for full in thing]) and is_rising(thing)


def is_form(thing):
    """Whether a thing is a tuple (short, fulls)."""
    if not isinstance(thing, tuple) or len(thing) != 2:
        return False
    return is_word(thing[0]) and are_fulls(thing[1])


def are_forms(thing):
    """Whether a thing, of whatever kind, is forms."""
    if not isinstance(thing, tuple) or len(thing) > MOST_FORMS:
        return False
    return all([is_form(form) for form in thing]) and is_rising([form[0] for form in thing])


def check_texts(forms, draft, copy):
    """Refuse what are no forms, what is no draft and what is no copy."""
    if not are_forms(forms):
        raise NoForms("these are no forms")
    if not are_words(draft, 0, MOST_DRAFT_WORDS):
        raise NoDraft("this is no draft")
    if not are_words(copy, 0, MOST_COPY_WORDS):
        raise NoCopy("this is no copy")


def fulls_of(forms, draft):
    """For each word of a draft the fulls any one of which says it."""
    told = {short: fulls for short, fulls in forms}
    return [told.get(word, ((word,),)) for word in draft]


def counts_behind(counts, fulls, copy):
    """In how many ways one word more of the draft may be the copy's first words, for each number of these."""
    behind = [0] * len(counts)
    for full in fulls:
        for place, many in enumerate(counts):
            end = place + len(full)
            # A slice that runs over the copy's end is shorter than the full, and so is not equal to it.
            if copy[place:end] == full:
                behind[end] += many
    return behind


def counts_of(forms, draft, copy):
    """For each number of the draft's first words, and each of the copy's, in how many ways these say those."""
    check_texts(forms, draft, copy)
    rows = [[1] + [0] * len(copy)]
    for fulls in fulls_of(forms, draft):
        rows.append(counts_behind(rows[-1], fulls, copy))
    return rows


def says(forms, draft, copy):
    """Whether a copy says a draft."""
    return ways_many(forms, draft, copy) > 0


def ways_many(forms, draft, copy):
    """In how many ways a copy says a draft."""
    return counts_of(forms, draft, copy)[-1][-1]


def ways_behind(ways, fulls, copy):
    """The first ways of one word more of the draft, by the number of the copy's first words that they are."""
    behind = {}
    for place in ways:
        for which, full in enumerate(fulls):
            end = place + len(full)
            if copy[place:end] == full:
                way = ways[place] + (which,)
                behind[end] = min(way, behind.get(end, way))
    return behind


def first_way(forms, draft, copy):
    """The first way in which a copy says a draft, None where there is none."""
    check_texts(forms, draft, copy)
    # The first way to a place goes by first ways alone, so one for each place is enough.
    ways = {0: ()}
    for fulls in fulls_of(forms, draft):
        ways = ways_behind(ways, fulls, copy)
    return ways.get(len(copy))


def reaches_of(forms, draft, copy):
    """For each number of the draft's first words, how many of the copy's first words these may be."""
    rows = counts_of(forms, draft, copy)
    return [tuple([place for place, many in enumerate(row) if many > 0]) for row in rows]


def is_reach(reach, thing):
    """Whether a thing is this tuple of whole numbers."""
    # True and False equal 1 and 0, so being equal is not enough.
    return isinstance(thing, tuple) and all([is_whole(part) for part in thing]) and thing == reach


def reaches_hold(forms, draft, copy, thing):
    """Whether a thing, of whatever kind, is the list of reaches."""
    reaches = reaches_of(forms, draft, copy)
    if not isinstance(thing, list) or len(thing) != len(reaches):
        return False
    return all([is_reach(reach, part) for reach, part in zip(reaches, thing)])


def parts_at(forms, draft, copy):
    """Where a copy parts from a draft, None where it says it."""
    if says(forms, draft, copy):
        return None
    reached = [reach for reach in reaches_of(forms, draft, copy) if reach]
    # Behind a number of words that reach nothing no more words do, so those that do stand ahead.
    return (len(reached) - 1, reached[-1][-1])
