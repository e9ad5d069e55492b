"""A scribe, who keeps a book (point 91)."""

from deedsheaf.books import acts_of, deeds_of, entries_rising, is_age, is_folk
from deedsheaf.errors import NoAge, NoFolk, NothingDone
from deedsheaf.late import with_entry, without_entry
from deedsheaf.standing import standing_of
from deedsheaf.texts import book_text


def by_numbers(book):
    """The book with its entries by their numbers."""
    folk, age, entries = book
    return (folk, age, tuple(entries_rising(book)))


class Scribe:
    """Keeps a book, and all books that it was ahead of deeds that are not undone."""

    def __init__(self, folk, age):
        if not is_folk(folk):
            raise NoFolk("this is no folk")
        if not is_age(age):
            raise NoAge("an age is a whole number from 0 to 9999")
        self.kept = (folk, age, ())
        self.earlier = []

    def turn_to(self, other):
        """Keep another book instead, which can be undone."""
        self.earlier.append(self.kept)
        self.kept = by_numbers(other)

    def write(self, entry):
        """Put an entry into the book."""
        self.turn_to(with_entry(self.kept, entry))

    def tear(self, number):
        """Take the entry of this number out of the book."""
        self.turn_to(without_entry(self.kept, number))

    def undo(self):
        """Undo the last deed that is not undone yet."""
        if not self.earlier:
            raise NothingDone("there is no deed left to undo")
        self.kept = self.earlier.pop()

    def book(self):
        """The book, with its entries by their numbers."""
        return self.kept

    def standing(self, deed, d, k=9999):
        """What a deed of the book is."""
        return standing_of(self.kept, deed, d, k)

    def twin(self):
        """Another Scribe of the same book, with the same that can be undone."""
        other = Scribe(self.kept[0], self.kept[1])
        other.kept = self.kept
        other.earlier = list(self.earlier)
        return other

    def __len__(self):
        return len(self.kept[2])

    def __eq__(self, other):
        return isinstance(other, Scribe) and self.kept == other.kept

    def __repr__(self):
        return f"Scribe({len(deeds_of(self.kept))} deeds, {len(acts_of(self.kept))} acts)"

    def __str__(self):
        return str(book_text(self.kept))
