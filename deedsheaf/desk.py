"""A desk, which keeps a Scribe and is told rows (point 102)."""

from deedsheaf.courses import course_of, learned_of
from deedsheaf.errors import NoRow
from deedsheaf.folk import faults_of, turns_of
from deedsheaf.reasons import why_of
from deedsheaf.scribe import Scribe
from deedsheaf.standing import in_force
from deedsheaf.texts import are_number_texts, book_text, entry_read, folk_read, is_number_text

# How many numbers stand behind the word of a row, for the rows that have nothing else there.
NUMBERS_BEHIND = {
    "tear": 1, "undo": 0, "book": 0, "is": 3, "force": 3, "why": 3, "course": 2, "learned": 2, "faults": 0, "hands": 0,
}


def folk_parts(words):
    """The folk and the age that the words behind `folk` tell; None where they tell none."""
    if len(words) < 2 or not is_number_text(words[0]):
        return None
    folk = folk_read(words[1:])
    return None if folk is None else (folk, int(words[0]))


def write_parts(words):
    """The entry that the words behind `write` tell, alone in a tuple; None where they tell none."""
    entry = entry_read(words)
    return None if entry is None else (entry,)


def number_parts(word, words):
    """The numbers that the words behind this one tell; None where they are not what the row wants."""
    if NUMBERS_BEHIND.get(word) != len(words) or not are_number_texts(words):
        return None
    return tuple([int(number) for number in words])


def row_read(row):
    """The word of a row, of whatever kind, and the tuple of what stands behind it."""
    if not isinstance(row, str):
        raise NoRow("a row is a text")
    word, *words = row.split(" ")
    if word == "folk":
        parts = folk_parts(words)
    elif word == "write":
        parts = write_parts(words)
    else:
        parts = number_parts(word, words)
    if parts is None:
        raise NoRow("the desk knows no such row")
    return (word, parts)


def rows_text(rows):
    """Tuples as one text: colons within them and blanks between them, `none` where there are none."""
    texts = [":".join([str(part) for part in row]) for row in rows]
    return " ".join(texts) if texts else "none"


def say_write(scribe, parts):
    """Write an entry."""
    scribe.write(parts[0])
    return "ok"


def say_tear(scribe, parts):
    """Tear an entry."""
    scribe.tear(parts[0])
    return "ok"


def say_undo(scribe, parts):
    """Undo a deed."""
    scribe.undo()
    return "ok"


def say_book(scribe, parts):
    """The book's text, in one line."""
    return book_text(scribe.book()).replace("\n", " ; ")


def say_is(scribe, parts):
    """What a deed is."""
    number, d, k = parts
    return scribe.standing(number, d, k)


def say_force(scribe, parts):
    """Whether an act is in force."""
    number, d, k = parts
    return "yes" if in_force(scribe.book(), number, d, k) else "no"


def say_why(scribe, parts):
    """The words of a why's own tuple."""
    number, d, k = parts
    why = why_of(scribe.book(), number, d, k)
    words = [why[0], str(why[1])]
    if why[0] in ("void", "paid", "fallen"):
        # The paper that the why goes down to is its last part.
        words.append(str(why[-1][1]))
    return " ".join(words)


def say_course(scribe, parts):
    """The course of a deed."""
    number, k = parts
    return rows_text(course_of(scribe.book(), number, k))


def say_learned(scribe, parts):
    """What was learned of a deed."""
    number, d = parts
    return rows_text(learned_of(scribe.book(), number, d))


def say_faults(scribe, parts):
    """The witnesses who could be none."""
    return rows_text(faults_of(scribe.book()))


def say_hands(scribe, parts):
    """The hands' turns."""
    return rows_text(turns_of(scribe.book()))


ANSWERS = {
    "write": say_write, "tear": say_tear, "undo": say_undo, "book": say_book, "is": say_is, "force": say_force,
    "why": say_why, "course": say_course, "learned": say_learned, "faults": say_faults, "hands": say_hands,
}


class Desk:
    """Keeps a Scribe and answers rows."""

    def __init__(self):
        self.scribe = Scribe(((0, None),), 0)

    def say(self, row):
        """Do what a row says, and answer it."""
        word, parts = row_read(row)
        if word == "folk":
            folk, age = parts
            self.scribe = Scribe(folk, age)
            return "ok"
        answer = ANSWERS[word]
        return answer(self.scribe, parts)
