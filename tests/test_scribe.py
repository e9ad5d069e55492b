"""Point 91: a scribe."""

import random
import unittest

from deedsheaf.errors import (Missing, Named, NoAge, NoDay, NoDeed, NoEntry, NoFolk, NoName, NothingDone, SheafError,
                              TooMany, Twice)
from deedsheaf.scribe import Scribe
from tests.helper import (FOLK, NO_DAYS, ODD_THINGS, act, book, deed, dressed, random_entry, rich_book, rising,
                          shuffled, told_acts, told_deeds, told_standing, told_text)

ENTRIES = (deed(4), deed(1, 20, 25, witnesses=(2,)), act(7, "void", 4, 30, 40), act(9, "undone", 7, 50, 60),
           deed(6, rests=(1, 4)), act(2, "paid", 1, 99, 99))
NO_FOLK = [*ODD_THINGS, [(0, None)], ((0, 0),), ((0, None),) * 7, ((0, None), [0, None]), ((True, None),), ((0,),)]
NO_AGES = [*ODD_THINGS, 10000, -9999, (14,), [14], "14"]


def scribe_of(*entries):
    scribe = Scribe(FOLK, 14)
    for entry in entries:
        scribe.write(entry)
    return scribe


def undone_books(scribe):
    """All books down to the first, as a twin tells them while it undoes what can be undone."""
    other = scribe.twin()
    books = [other.book()]
    while True:
        try:
            other.undo()
        except NothingDone:
            return books
        books.append(other.book())


class Refusing(unittest.TestCase):
    def refused(self, error, tell, *asked):
        with self.assertRaises(error, msg=asked) as caught:
            tell(*asked)
        self.assertIs(type(caught.exception), error)
        return caught.exception


class Making(Refusing):
    def test_at_first_without_entries(self):
        for folk, age in ((FOLK, 14), (((0, None),), 0), (((-9999, 9999),) * 6, 9999)):
            self.assertEqual(Scribe(folk, age).book(), (folk, age, ()))
            self.assertEqual(Scribe(age=age, folk=folk).book(), (folk, age, ()))

    def test_no_folk_of_whatever_kind(self):
        for thing in NO_FOLK:
            self.refused(NoFolk, Scribe, thing, 14)

    def test_no_age_of_whatever_kind(self):
        for thing in NO_AGES:
            self.refused(NoAge, Scribe, FOLK, thing)

    def test_no_folk_ahead_of_no_age(self):
        for thing in NO_FOLK:
            for age in (None, True, -1, 10000, [], "14"):
                self.refused(NoFolk, Scribe, thing, age)


class Writing(Refusing):
    def test_the_book_has_its_entries_by_their_numbers(self):
        scribe = scribe_of(*ENTRIES)
        self.assertEqual(scribe.book(), (FOLK, 14, tuple(sorted(ENTRIES))))
        self.assertEqual([entry[0] for entry in scribe.book()[2]], [1, 2, 4, 6, 7, 9])

    def test_deeds_tell_nothing(self):
        scribe = Scribe(FOLK, 14)
        self.assertIsNone(scribe.write(deed(0)))
        self.assertIsNone(scribe.tear(0))
        self.assertIsNone(scribe.undo())

    def test_what_is_refused_as_a_late_page_is(self):
        scribe = scribe_of(*ENTRIES)
        kept = undone_books(scribe)
        for thing in [*ODD_THINGS, deed(31), deed(8, hand=4), list(deed(8)), deed(8, witnesses=(5,))]:
            self.refused(NoEntry, scribe.write, thing)
        for entry in ENTRIES:
            self.assertEqual(self.refused(Twice, scribe.write, entry).at, entry[0])
            self.assertEqual(self.refused(Twice, scribe.write, deed(entry[0], 99)).at, entry[0])
        self.assertEqual(self.refused(Twice, scribe.write, act(9, "void", 0)).at, 9)
        for entry in (deed(8, rests=(7,)), deed(8, rests=(0,)), act(8, "void", 7), act(8, "undone", 4),
                      act(8, "paid", 3)):
            self.refused(NoName, scribe.write, entry)
        self.assertEqual(undone_books(scribe), kept)

    def test_a_seventeenth(self):
        scribe = scribe_of(*[deed(number) for number in range(16)])
        kept = undone_books(scribe)
        self.refused(TooMany, scribe.write, deed(16))
        self.refused(NoName, scribe.write, act(17, "void", 16))
        self.refused(Twice, scribe.write, deed(15))
        self.assertEqual(undone_books(scribe), kept)
        scribe.tear(3)
        scribe.write(deed(16))
        self.assertEqual(len(scribe), 16)

    def test_an_entry_of_other_folk(self):
        scribe = Scribe(FOLK[:2], 14)
        self.refused(NoEntry, scribe.write, deed(0, witnesses=(2,)))
        scribe.write(deed(0))
        self.refused(NoEntry, Scribe(FOLK[:1], 14).write, deed(0))


class Tearing(Refusing):
    def test_the_others_stay(self):
        scribe = scribe_of(*ENTRIES)
        scribe.tear(6)
        scribe.tear(9)
        self.assertEqual([entry[0] for entry in scribe.book()[2]], [1, 2, 4, 7])
        scribe.tear(7)
        scribe.tear(4)
        self.assertEqual(scribe.book(), (FOLK, 14, (ENTRIES[1], ENTRIES[5])))

    def test_missing_and_named(self):
        scribe = scribe_of(*ENTRIES)
        kept = undone_books(scribe)
        for thing in [*ODD_THINGS, 0, 3, 5, 8, 30, 31]:
            self.refused(Missing, scribe.tear, thing)
        for number, by in ((1, 2), (4, 6), (7, 9)):
            self.assertEqual(self.refused(Named, scribe.tear, number).by, by)
        self.refused(Missing, Scribe(FOLK, 14).tear, 0)
        self.assertEqual(undone_books(scribe), kept)

    def test_true_is_not_1(self):
        scribe = scribe_of(deed(0), deed(1))
        for thing in (True, False):
            self.refused(Missing, scribe.tear, thing)
        self.assertEqual(len(scribe), 2)


class Undoing(Refusing):
    def test_deed_by_deed(self):
        scribe = Scribe(FOLK, 14)
        books = [scribe.book()]
        for word, what in (("write", deed(3)), ("write", deed(1)), ("tear", 3), ("write", act(2, "paid", 1)),
                           ("write", deed(3, 77)), ("tear", 2), ("tear", 1)):
            getattr(scribe, word)(what)
            books.append(scribe.book())
        self.assertEqual(len(set(books)), 8)
        self.assertEqual(undone_books(scribe), books[::-1])
        while len(books) > 1:
            books.pop()
            scribe.undo()
            self.assertEqual(scribe.book(), books[-1])
        self.refused(NothingDone, scribe.undo)
        self.assertEqual(scribe.book(), (FOLK, 14, ()))

    def test_nothing_done(self):
        scribe = Scribe(FOLK, 14)
        self.refused(NothingDone, scribe.undo)
        self.refused(NoEntry, scribe.write, None)
        self.refused(Missing, scribe.tear, 0)
        self.refused(NothingDone, scribe.undo)
        scribe.write(deed(0))
        scribe.undo()
        self.refused(NothingDone, scribe.undo)
        scribe.write(deed(0))
        self.assertEqual(scribe.book(), book(deed(0)))

    def test_what_is_undone_is_not_undone_again(self):
        scribe = scribe_of(deed(0), deed(1), deed(2))
        scribe.undo()
        scribe.undo()
        self.assertEqual(scribe.book(), book(deed(0)))
        scribe.write(deed(5))
        scribe.undo()
        self.assertEqual(scribe.book(), book(deed(0)))
        scribe.undo()
        self.assertEqual(scribe.book(), book())
        self.refused(NothingDone, scribe.undo)

    def test_behind_refused_deeds(self):
        scribe = scribe_of(deed(0), act(1, "void", 0))
        for error, tell, what in ((Twice, scribe.write, deed(1)), (Named, scribe.tear, 0), (Missing, scribe.tear, 9),
                                  (NoName, scribe.write, act(5, "void", 1)), (NoEntry, scribe.write, ())):
            self.refused(error, tell, what)
        scribe.undo()
        self.assertEqual(scribe.book(), book(deed(0)))
        scribe.undo()
        self.assertEqual(scribe.book(), book())

    def test_a_hundred_deeds(self):
        scribe = Scribe(FOLK, 14)
        for time in range(100):
            scribe.write(deed(time % 31, time))
            scribe.tear(time % 31)
        for time in range(199, -1, -1):
            scribe.undo()
            self.assertEqual(len(scribe), time % 2)
        self.refused(NothingDone, scribe.undo)


class Standing(Refusing):
    def test_what_a_deed_is(self):
        scribe = scribe_of(*ENTRIES)
        self.assertEqual(scribe.standing(4, 30), "void")
        self.assertEqual(scribe.standing(6, 30), "fallen")
        self.assertEqual(scribe.standing(6, 50), "stands")
        self.assertEqual(scribe.standing(6, 50, 59), "fallen")
        self.assertEqual(scribe.standing(1, 99), "paid")
        self.assertEqual(scribe.standing(1, 19), "ahead")
        self.assertEqual(scribe.standing(1, 19, 24), "unknown")

    def test_by_names_and_with_k_left_out(self):
        scribe = scribe_of(deed(0, 5, 9999))
        self.assertEqual(scribe.standing(deed=0, d=5), "stands")
        self.assertEqual(scribe.standing(k=9999, d=5, deed=0), "stands")
        self.assertEqual(scribe.standing(0, d=5, k=9998), "unknown")
        other = Scribe(folk=FOLK, age=14)
        other.write(entry=deed(0))
        other.write(entry=deed(1))
        other.tear(number=0)
        self.assertEqual(other.book(), book(deed(1)))

    def test_the_refusals(self):
        scribe = scribe_of(*ENTRIES)
        for thing in [*ODD_THINGS, 0, 2, 3, 7, 30, 31]:
            self.refused(NoDeed, scribe.standing, thing, 5, 5)
            self.refused(NoDeed, scribe.standing, thing, thing, thing)
        for thing in NO_DAYS:
            self.refused(NoDay, scribe.standing, 4, thing)
            self.refused(NoDay, scribe.standing, 4, 5, thing)

    def test_as_it_is_then(self):
        scribe = scribe_of(deed(0))
        self.assertEqual(scribe.standing(0, 50), "stands")
        scribe.write(act(1, "void", 0))
        self.assertEqual(scribe.standing(0, 50), "void")
        scribe.undo()
        self.assertEqual(scribe.standing(0, 50), "stands")
        scribe.tear(0)
        self.refused(NoDeed, scribe.standing, 0, 50)
        scribe.undo()
        self.assertEqual(scribe.standing(0, 50), "stands")


class Twins(Refusing):
    def test_a_twin_has_the_same_that_can_be_undone(self):
        scribe = scribe_of(*ENTRIES)
        scribe.tear(6)
        scribe.undo()
        other = scribe.twin()
        self.assertIs(type(other), Scribe)
        self.assertIsNot(other, scribe)
        self.assertEqual(other.book(), scribe.book())
        for many in range(len(ENTRIES) - 1, -1, -1):
            other.undo()
            self.assertEqual(other.book(), rising(book(*ENTRIES[:many])))
        self.refused(NothingDone, other.undo)

    def test_neither_hangs_on_the_other(self):
        scribe = scribe_of(deed(0), deed(1))
        other = scribe.twin()
        other.write(deed(2))
        self.assertEqual(scribe.book(), book(deed(0), deed(1)))
        scribe.undo()
        scribe.write(deed(9))
        scribe.tear(0)
        self.assertEqual(other.book(), book(deed(0), deed(1), deed(2)))
        self.assertEqual(undone_books(other), [book(*[deed(n) for n in range(many)]) for many in (3, 2, 1, 0)])
        self.assertEqual(undone_books(scribe), [book(deed(9)), book(deed(0), deed(9)), book(deed(0)), book()])

    def test_undoing_one_leaves_the_other_what_it_can_undo(self):
        scribe = scribe_of(deed(0), deed(1))
        other = scribe.twin()
        scribe.undo()
        scribe.undo()
        self.refused(NothingDone, scribe.undo)
        self.assertEqual(len(undone_books(other)), 3)
        third = other.twin().twin()
        other.undo()
        self.assertEqual((len(scribe), len(other), len(third)), (0, 1, 2))

    def test_a_twin_of_a_new_one(self):
        self.refused(NothingDone, Scribe(FOLK, 14).twin().undo)
        self.assertEqual(Scribe(FOLK, 9).twin().book(), (FOLK, 9, ()))


class Telling(unittest.TestCase):
    def test_len(self):
        scribe = Scribe(FOLK, 14)
        for many, entry in enumerate(ENTRIES):
            self.assertEqual(len(scribe), many)
            scribe.write(entry)
        self.assertEqual(len(scribe), 6)
        scribe.tear(6)
        self.assertEqual(len(scribe), 5)
        scribe.undo()
        self.assertEqual(len(scribe), 6)

    def equal(self, one, other, wanted):
        self.assertIs(one == other, wanted)
        self.assertIs(other == one, wanted)
        self.assertIs(one != other, not wanted)

    def test_the_same_book_that_came_another_way(self):
        scribe = scribe_of(deed(0), deed(1), act(2, "paid", 0))
        other = scribe_of(deed(5), deed(1), deed(0), act(2, "paid", 0))
        self.equal(scribe, other, False)
        other.tear(5)
        self.equal(scribe, other, True)
        self.equal(scribe, scribe.twin(), True)
        self.equal(scribe, scribe, True)
        other.undo()
        self.equal(scribe, other, False)
        scribe.undo()
        self.equal(scribe, scribe_of(deed(1), deed(0)), True)
        self.equal(Scribe(FOLK, 14), Scribe(FOLK, 14), True)

    def test_other_folk_another_age_or_other_entries(self):
        self.equal(Scribe(FOLK, 14), Scribe(FOLK, 15), False)
        self.equal(Scribe(FOLK, 14), Scribe(FOLK[:-1], 14), False)
        self.equal(Scribe(FOLK, 14), Scribe(FOLK[::-1], 14), False)
        self.equal(scribe_of(deed(0)), scribe_of(deed(1)), False)
        self.equal(scribe_of(deed(0)), scribe_of(deed(0, 11)), False)
        self.equal(scribe_of(deed(0)), scribe_of(deed(0, hand=1)), False)
        self.equal(scribe_of(deed(0)), Scribe(FOLK, 14), False)

    def test_what_is_no_scribe(self):
        scribe = scribe_of(*ENTRIES)
        for thing in [*ODD_THINGS, scribe.book(), str(scribe), repr(scribe), len(scribe), [scribe], (scribe,)]:
            self.equal(scribe, thing, False)
            self.equal(Scribe(FOLK, 14), thing, False)

    def test_repr(self):
        scribe = Scribe(FOLK, 14)
        self.assertEqual(repr(scribe), "Scribe(0 deeds, 0 acts)")
        scribe.write(deed(0))
        self.assertEqual(repr(scribe), "Scribe(1 deeds, 0 acts)")
        scribe.write(act(1, "void", 0))
        scribe.write(act(2, "undone", 1))
        self.assertEqual(repr(scribe), "Scribe(1 deeds, 2 acts)")
        scribe.undo()
        self.assertEqual(repr(scribe), "Scribe(1 deeds, 1 acts)")
        self.assertEqual(repr(scribe_of(*ENTRIES)), "Scribe(3 deeds, 3 acts)")

    def test_str(self):
        self.assertEqual(str(Scribe(((0, None), (-5, 7)), 3)), "folk 0:- -5:7\nage 3")
        scribe = Scribe(((0, None), (-5, 7)), 3)
        scribe.write((9, 1, 2, 3, "deed", 1, 0, (), ()))
        scribe.write((4, 1, 2, 0, "deed", 0, 1, (), ()))
        scribe.write((10, 5, 6, 0, "void", 9))
        rows = ["folk 0:- -5:7", "age 3", "4 1 2 0 deed 0 1 - -", "9 1 2 3 deed 1 0 - -", "10 5 6 0 void 9"]
        self.assertEqual(str(scribe), "\n".join(rows))
        self.assertEqual(f"{scribe}", str(scribe))

    def test_what_is_told_changes_nothing(self):
        scribe = scribe_of(*ENTRIES)
        for time in range(2):
            self.assertEqual((len(scribe), repr(scribe)), (6, "Scribe(3 deeds, 3 acts)"))
            self.assertEqual(str(scribe), told_text(book(*ENTRIES)))
            self.assertEqual(scribe.book(), rising(book(*ENTRIES)))
            self.assertEqual(scribe.standing(4, 30), "void")
            self.assertEqual(len(undone_books(scribe)), 7)


class Walks(unittest.TestCase):
    def one_deed(self, chance, scribe, books):
        """Do one deed to the scribe and to the list of the books that it kept, if it is not refused."""
        sheaf = books[-1]
        word = chance.choice(("write", "write", "write", "tear", "undo"))
        try:
            if word == "write":
                entry = random_entry(chance, chance.randint(0, 30), told_deeds(sheaf), told_acts(sheaf), 6)
                entry = dressed(chance, len(sheaf[0]), entry)
                scribe.write(entry)
                books.append(rising((sheaf[0], sheaf[1], sheaf[2] + (entry,))))
            elif word == "tear":
                number = chance.randint(0, 30)
                scribe.tear(number)
                books.append((sheaf[0], sheaf[1], tuple(entry for entry in sheaf[2] if entry[0] != number)))
            else:
                scribe.undo()
                books.pop()
        except SheafError:
            return False
        return True

    def test_against_a_list_of_books(self):
        done = 0
        for seed in range(60):
            chance = random.Random(seed)
            folk, age = rich_book(seed)[:2]
            scribe, books = Scribe(folk, age), [(folk, age, ())]
            for time in range(60):
                done += self.one_deed(chance, scribe, books)
                self.assertEqual(scribe.book(), books[-1])
                self.assertEqual(len(scribe), len(books[-1][2]))
                self.assertEqual(str(scribe), told_text(books[-1]))
            self.assertEqual(undone_books(scribe), books[::-1])
            for number in told_deeds(books[-1]):
                for d, k in ((2, 9999), (4, 3), (6, 6)):
                    self.assertEqual(scribe.standing(number, d, k), told_standing(books[-1], number, d, k))
        self.assertGreater(done, 1000)

    def written_anyhow(self, sheaf, seed):
        """A scribe who wrote the entries in some order that lets each of them name what it names."""
        scribe = Scribe(sheaf[0], sheaf[1])
        left = list(shuffled(sheaf, seed)[2])
        while left:
            entry = left.pop(0)
            try:
                scribe.write(entry)
            except NoName:
                left.append(entry)
        return scribe

    def test_the_order_of_writing_matters_nothing(self):
        ways = 0
        for seed in range(40):
            sheaf = rich_book(seed, most=10, last=6)
            one, other = self.written_anyhow(sheaf, seed), self.written_anyhow(sheaf, seed + 1)
            self.assertEqual(one.book(), rising(sheaf))
            self.assertIs(one == other, True)
            self.assertEqual(str(one), str(other))
            ways += undone_books(one) != undone_books(other)
        self.assertGreater(ways, 20)


if __name__ == "__main__":
    unittest.main()
