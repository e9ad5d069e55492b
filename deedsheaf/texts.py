"""Books as texts: writing them, and reading them again (point 101)."""

from deedsheaf.books import ACT_WORDS, OF, WORD, entries_rising, is_book
from deedsheaf.errors import NoText

MOST_FIGURES = 40


def person_text(person):
    """A person as a text."""
    born, died = person
    return f"{born}:-" if died is None else f"{born}:{died}"


def part_text(part):
    """A part of an entry as a text: a number, a word, or a tuple of numbers."""
    if isinstance(part, tuple):
        return ",".join([str(number) for number in part]) if part else "-"
    return str(part)


def book_text(book):
    """A book as a text, its entries by their numbers."""
    folk, age, entries = book
    lines = [" ".join(["folk"] + [person_text(person) for person in folk]), f"age {age}"]
    for entry in entries_rising(book):
        lines.append(" ".join([part_text(part) for part in entry]))
    return "\n".join(lines)


def is_number_text(text):
    """Whether a text is a number, written in at most forty figures."""
    figures = text[1:] if text.startswith("-") else text
    if not 1 <= len(figures) <= MOST_FIGURES:
        return False
    if not all(["0" <= sign <= "9" for sign in figures]):
        return False
    return figures[0] != "0" or text == "0"


def are_number_texts(texts):
    """Whether each of these texts is a number."""
    return all([is_number_text(text) for text in texts])


def is_list_text(text):
    """Whether a text is rests or witnesses, of whatever numbers."""
    return text == "-" or are_number_texts(text.split(","))


def list_read(text):
    """The tuple of numbers that a text of rests or witnesses tells."""
    if text == "-":
        return ()
    return tuple([int(number) for number in text.split(",")])


def person_read(text):
    """The tuple (born, died) that a text tells, whatever the numbers are; None where it tells none."""
    born, colon, died = text.partition(":")
    if not is_number_text(born):
        return None
    if died == "-":
        return (int(born), None)
    return (int(born), int(died)) if is_number_text(died) else None


def folk_read(words):
    """The tuple of the persons that words tell, whatever their numbers are; None where a word tells none."""
    persons = [person_read(word) for word in words]
    return None if None in persons else tuple(persons)


def deed_tail_read(words):
    """What words tell of what stands behind the word of a deed; None where they tell nothing."""
    if len(words) != 4 or not are_number_texts(words[:2]):
        return None
    giver, taker, rests, witnesses = words
    if not is_list_text(rests) or not is_list_text(witnesses):
        return None
    return (int(giver), int(taker), list_read(rests), list_read(witnesses))


def tail_read(word, words):
    """What words tell of what stands behind this word of an entry; None where they tell nothing."""
    if word == "deed":
        return deed_tail_read(words)
    if word in ACT_WORDS and len(words) == 1 and is_number_text(words[0]):
        return (int(words[0]),)
    return None


def entry_read(words):
    """The entry that words tell, whatever its numbers are; None where they tell none."""
    if len(words) <= OF or not are_number_texts(words[:WORD]):
        return None
    tail = tail_read(words[WORD], words[OF:])
    if tail is None:
        return None
    return tuple([int(number) for number in words[:WORD]]) + (words[WORD],) + tail


def parts_read(text):
    """The tuple (folk, age, entries) that a text tells, whether it is a book or not; None where it tells none."""
    rows = [line.split(" ") for line in text.split("\n")]
    if len(rows) < 2 or rows[0][0] != "folk":
        return None
    if len(rows[1]) != 2 or rows[1][0] != "age" or not is_number_text(rows[1][1]):
        return None
    # A row that tells nothing is None here, which is neither folk nor an entry.
    return (folk_read(rows[0][1:]), int(rows[1][1]), tuple([entry_read(row) for row in rows[2:]]))


def book_read(text):
    """The book that a text, of whatever kind, writes, its entries by their numbers."""
    book = parts_read(text) if isinstance(text, str) else None
    # Entries in another order tell a book too, but its text is another one.
    if not is_book(book) or book_text(book) != text:
        raise NoText("this is no text of a book")
    return book
