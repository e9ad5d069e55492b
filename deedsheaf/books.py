"""Folk, entries and books: what is one, and which deeds and acts a book has (points 2, 3 and 11)."""

# The places within an entry; those from 5 on hang on its word.
NUMBER = 0
DAY = 1
WRITTEN = 2
HAND = 3
WORD = 4
OF = 5
RESTS = 7
WITNESSES = 8

ACT_WORDS = ("paid", "void", "undone")
LAST_DAY = 9999
LAST_NUMBER = 30
LAST_HAND = 3
MOST_FOLK = 6
MOST_ENTRIES = 16
MOST_RESTS = 2
MOST_WITNESSES = 3


def is_whole(thing):
    """Whether a thing is a whole number."""
    # Python counts True and False among its ints; the document does not.
    return isinstance(thing, int) and not isinstance(thing, bool)


def is_within(thing, low, high):
    """Whether a thing is a whole number from low to high."""
    return is_whole(thing) and low <= thing <= high


def is_day(thing):
    """Whether a thing is a day."""
    return is_within(thing, 0, LAST_DAY)


def is_age(thing):
    """Whether a thing is an age."""
    return is_within(thing, 0, LAST_DAY)


def is_person(thing):
    """Whether a thing is a person."""
    if not isinstance(thing, tuple) or len(thing) != 2:
        return False
    born, died = thing
    if not is_within(born, -LAST_DAY, LAST_DAY):
        return False
    return died is None or is_within(died, born + 1, LAST_DAY)


def is_folk(thing):
    """Whether a thing, of whatever kind, is folk."""
    if not isinstance(thing, tuple) or not 1 <= len(thing) <= MOST_FOLK:
        return False
    return all([is_person(person) for person in thing])


def is_rising(things):
    """Whether in a row of things that can be compared each one is greater than the one ahead."""
    return all([ahead < behind for ahead, behind in zip(things, things[1:])])


def is_rising_below(thing, most, limit):
    """Whether a thing is a rising tuple of at most so many whole numbers from 0 on, each less than the limit."""
    if not isinstance(thing, tuple) or len(thing) > most:
        return False
    return all([is_within(part, 0, limit - 1) for part in thing]) and is_rising(thing)


def is_deed_tail(folk, number, tail):
    """Whether a tuple is what stands behind the word of a deed of this number."""
    if len(tail) != 4:
        return False
    giver, taker, rests, witnesses = tail
    last = len(folk) - 1
    if not is_within(giver, 0, last) or not is_within(taker, 0, last) or giver == taker:
        return False
    if not is_rising_below(rests, MOST_RESTS, number):
        return False
    if not is_rising_below(witnesses, MOST_WITNESSES, len(folk)):
        return False
    return giver not in witnesses and taker not in witnesses


def is_act_tail(number, tail):
    """Whether a tuple is what stands behind the word of an act of this number."""
    return len(tail) == 1 and is_within(tail[0], 0, number - 1)


def is_entry(folk, thing):
    """Whether a thing, of whatever kind, is an entry of this folk."""
    if not is_folk(folk) or not isinstance(thing, tuple) or len(thing) <= OF:
        return False
    number, day, written, hand, word = thing[:OF]
    if not is_within(number, 0, LAST_NUMBER) or not is_day(day) or not is_day(written):
        return False
    if not is_within(hand, 0, LAST_HAND):
        return False
    if word == "deed":
        return is_deed_tail(folk, number, thing[OF:])
    return word in ACT_WORDS and is_act_tail(number, thing[OF:])


def names_fit(words, entry):
    """Whether what an entry names is there, of the right sort; words tells of each number its entry's word."""
    if entry[WORD] == "deed":
        return all([words.get(rest) == "deed" for rest in entry[RESTS]])
    if entry[WORD] == "undone":
        return words.get(entry[OF]) in ACT_WORDS
    return words.get(entry[OF]) == "deed"


def is_book(thing):
    """Whether a thing, of whatever kind, is a book."""
    if not isinstance(thing, tuple) or len(thing) != 3:
        return False
    folk, age, entries = thing
    if not is_folk(folk) or not is_age(age):
        return False
    if not isinstance(entries, tuple) or len(entries) > MOST_ENTRIES:
        return False
    if not all([is_entry(folk, entry) for entry in entries]):
        return False
    words = {entry[NUMBER]: entry[WORD] for entry in entries}
    return len(words) == len(entries) and all([names_fit(words, entry) for entry in entries])


def entries_rising(book):
    """The entries of a book by their numbers."""
    return sorted(book[2], key=lambda entry: entry[NUMBER])


def deed_entries(book):
    """The deeds of a book, as entries, by their numbers."""
    return [entry for entry in entries_rising(book) if entry[WORD] == "deed"]


def act_entries(book):
    """The acts of a book, as entries, by their numbers."""
    return [entry for entry in entries_rising(book) if entry[WORD] != "deed"]


def deeds_of(book):
    """The rising list of the numbers of a book's deeds."""
    return [entry[NUMBER] for entry in deed_entries(book)]


def acts_of(book):
    """The rising list of the numbers of a book's acts."""
    return [entry[NUMBER] for entry in act_entries(book)]
