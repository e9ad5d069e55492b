"""Points 51 and 52: books with an entry more or less, and what parts two books."""

import unittest

from deedsheaf.books import is_book, is_entry
from deedsheaf.errors import Missing, Named, NoDay, NoEntry, NoName, TooMany, Twice
from deedsheaf.late import late_of, parting_of, with_entry, without_entry
from tests.helper import (FOLK, NO_DAYS, ODD_THINGS, act, book, changed_at, deed, less_one, named_by, random_book,
                          shuffled, stretched, told_deeds, told_standing)

SHEAF = book(deed(1), act(3, "void", 1), act(5, "undone", 3), deed(7, rests=(1,)))
FULL = book(deed(0), act(1, "void", 0), *[deed(number) for number in range(2, 30, 2)])
MISSING = [*ODD_THINGS, 0, 2, 4, 6, 8, 30, 31, 99]
# Each is no entry of the folk, whatever a book has: by its kind, its size, or one of its places.
NO_ENTRIES = [
    *ODD_THINGS, list(deed(9)), deed(9)[:-1], deed(9) + (0,), act(9, "void", 1) + (0,), act(9, "void", 1)[:-1],
    deed(31), deed(-1), deed(True), deed(9, day=10000), deed(9, written=-1), deed(9, hand=4), deed(9, rests=(9,)),
    deed(9, rests=[1]), deed(9, rests=(True,)), deed(9, rests=(7, 1)), deed(9, rests=(1, 3, 5)),
    deed(9, witnesses=(5,)), deed(9, witnesses=(0,)), deed(9, witnesses=(3, 2)), act(9, "undone", 9),
    act(9, "void", -1), act(9, "lost", 1), act(9, ["void"], 1), act(9, {}, 1), act(9, "void", [1]), deed([9]),
    changed_at(deed(9), 5, 1), changed_at(deed(9), 6, 5), changed_at(deed(9), 5, True),
]


class WithEntry(unittest.TestCase):
    def refused(self, error, sheaf, entry):
        with self.assertRaises(error, msg=(sheaf, entry)) as caught:
            with_entry(sheaf, entry)
        self.assertIs(type(caught.exception), error)
        return caught.exception

    def test_it_stands_behind_the_others(self):
        for entry in (deed(0), deed(9, rests=(1, 7)), act(2, "paid", 1), act(9, "undone", 5), act(30, "void", 7)):
            told = with_entry(SHEAF, entry)
            self.assertEqual(told, (FOLK, 14, SHEAF[2] + (entry,)))
            self.assertIs(is_book(told), True)
        self.assertEqual(len(SHEAF[2]), 4)

    def test_the_others_stand_as_they_stood(self):
        other = shuffled(SHEAF, 4)
        self.assertNotEqual(other, SHEAF)
        self.assertEqual(with_entry(other, deed(4))[2], other[2] + (deed(4),))

    def test_no_entry_of_whatever_kind(self):
        for thing in NO_ENTRIES:
            self.assertIs(is_entry(FOLK, thing), False, thing)
            self.refused(NoEntry, SHEAF, thing)
            self.refused(NoEntry, FULL, thing)

    def test_an_entry_of_other_folk(self):
        few = (FOLK[:2], 14, ())
        self.refused(NoEntry, few, deed(0, witnesses=(2,)))
        self.assertEqual(with_entry(few, deed(0))[2], (deed(0),))
        self.refused(NoEntry, (FOLK[:1], 14, ()), deed(0))

    def test_twice(self):
        for entry in SHEAF[2]:
            self.assertEqual(self.refused(Twice, SHEAF, entry).at, entry[0])
            self.assertEqual(self.refused(Twice, SHEAF, deed(entry[0], 99)).at, entry[0])
        at = self.refused(Twice, book(deed(0)), deed(0, 50)).at
        self.assertEqual((at, type(at)), (0, int))

    def test_no_name(self):
        wrong = (deed(9, rests=(0,)), deed(9, rests=(3,)), deed(9, rests=(5,)), deed(9, rests=(1, 8)),
                 deed(9, rests=(0, 1)), act(9, "void", 3), act(9, "paid", 5), act(9, "void", 0), act(9, "paid", 8),
                 act(9, "undone", 1), act(9, "undone", 7), act(9, "undone", 0), act(9, "undone", 8))
        for entry in wrong:
            self.refused(NoName, SHEAF, entry)
        self.refused(NoName, book(), act(1, "void", 0))

    def test_a_sixteenth_and_a_seventeenth(self):
        self.assertEqual(len(FULL[2]), 16)
        for left_out in (28, 14):
            less = less_one(FULL, deed(left_out))
            self.assertEqual(with_entry(less, deed(29)), (FOLK, 14, less[2] + (deed(29),)))
        for entry in (deed(29), deed(29, rests=(0, 2)), act(29, "void", 0), act(29, "undone", 1)):
            self.refused(TooMany, FULL, entry)

    def test_the_order_of_refusals(self):
        self.refused(NoEntry, SHEAF, deed(1, hand=4))
        self.refused(NoEntry, FULL, deed(0, hand=4))
        self.assertEqual(self.refused(Twice, SHEAF, act(7, "void", 2)).at, 7)
        self.assertEqual(self.refused(Twice, FULL, deed(28)).at, 28)
        self.assertEqual(self.refused(Twice, FULL, act(28, "void", 1)).at, 28)
        self.refused(NoName, FULL, act(29, "void", 1))
        self.refused(NoName, FULL, deed(29, rests=(27,)))


class WithoutEntry(unittest.TestCase):
    def refused(self, error, sheaf, number):
        with self.assertRaises(error, msg=(sheaf, number)) as caught:
            without_entry(sheaf, number)
        self.assertIs(type(caught.exception), error)
        return caught.exception

    def test_the_others_as_they_stand(self):
        self.assertEqual(without_entry(SHEAF, 7), book(deed(1), act(3, "void", 1), act(5, "undone", 3)))
        for seed in range(9):
            other = shuffled(SHEAF, seed)
            self.assertEqual(without_entry(other, 5), less_one(other, act(5, "undone", 3)))
        self.assertEqual(without_entry(book(deed(0)), 0), book())

    def test_missing_of_whatever_kind(self):
        for thing in MISSING:
            self.refused(Missing, SHEAF, thing)
        self.refused(Missing, book(), 0)

    def test_true_and_false_are_no_numbers(self):
        for thing in (True, False):
            self.refused(Missing, book(deed(0), deed(1)), thing)
            self.refused(Missing, book(deed(0), act(1, "void", 0)), thing)

    def test_named(self):
        self.assertEqual(self.refused(Named, SHEAF, 1).by, 3)
        self.assertEqual(self.refused(Named, SHEAF, 3).by, 5)

    def test_named_by_the_least(self):
        sheaf = book(act(20, "paid", 0), deed(0), deed(9, rests=(0, 4)), act(12, "void", 0), deed(4),
                     act(25, "undone", 12), act(21, "undone", 12))
        self.assertEqual(self.refused(Named, sheaf, 0).by, 9)
        self.assertEqual(self.refused(Named, sheaf, 4).by, 9)
        self.assertEqual(self.refused(Named, sheaf, 12).by, 21)

    def test_a_witness_or_a_hand_of_that_number_is_no_name(self):
        sheaf = book(deed(2, 3, 3, witnesses=(3,), hand=3), deed(3), deed(1), deed(0))
        for number in (0, 1, 2, 3):
            self.assertEqual(len(without_entry(sheaf, number)[2]), 3)

    def test_all_of_many_books(self):
        for seed in range(120):
            sheaf = random_book(seed, most=14)
            for entry in sheaf[2]:
                naming = named_by(sheaf, entry[0])
                if naming:
                    self.assertEqual(self.refused(Named, sheaf, entry[0]).by, naming[0])
                else:
                    less = without_entry(sheaf, entry[0])
                    self.assertEqual(less, less_one(sheaf, entry))
                    self.assertIs(is_book(less), True)
                    self.assertEqual(sorted(with_entry(less, entry)[2]), sorted(sheaf[2]))


def told_parting(sheaf, other, k, last=8):
    """What parts two books, found day by day."""
    rows = []
    for number in sorted(set(told_deeds(sheaf)) & set(told_deeds(other))):
        for day in range(last):
            both = told_standing(sheaf, number, day, k), told_standing(other, number, day, k)
            if both[0] != both[1]:
                rows.append((number, day, *both))
                break
    return rows


class Parting(unittest.TestCase):
    def test_the_first_day_of_each_deed(self):
        one = book(deed(0, 5), deed(1, 10, rests=(0,)), act(2, "void", 0, 20), act(3, "undone", 2, 30))
        other = book(deed(0, 5), deed(1, 15, rests=(0,)), act(4, "paid", 0, 18))
        self.assertEqual(parting_of(one, other), [(0, 18, "stands", "paid"), (1, 10, "stands", "ahead")])
        self.assertEqual(parting_of(other, one), [(0, 18, "paid", "stands"), (1, 10, "ahead", "stands")])

    def test_what_only_one_of_them_has_is_not_told(self):
        one = book(deed(0), deed(2), act(3, "void", 2), deed(4))
        other = book(deed(1), deed(2), act(4, "void", 1), deed(0, 30), act(5, "paid", 0, 40))
        self.assertEqual(parting_of(one, other), [(0, 10, "stands", "ahead"), (2, 10, "void", "stands")])

    def test_a_deed_and_an_act_of_one_number(self):
        one = book(deed(0), deed(1), deed(2))
        other = book(deed(0), act(1, "paid", 0, 50), act(2, "undone", 1, 60))
        self.assertEqual(parting_of(one, other), [(0, 50, "stands", "paid")])
        self.assertEqual(parting_of(other, one), [(0, 50, "paid", "stands")])

    def test_on_day_0_and_on_the_last_day(self):
        self.assertEqual(parting_of(book(deed(0, 0, 0)), book(deed(0, 0, 0), act(1, "void", 0, 9999, 0))),
                         [(0, 9999, "stands", "void")])
        self.assertEqual(parting_of(book(deed(0, 0, 0)), book(deed(0, 7, 0))), [(0, 0, "stands", "ahead")])
        self.assertEqual(parting_of(book(deed(0, 7, 3)), book(deed(0, 9, 5)), 4), [(0, 0, "ahead", "unknown")])

    def test_none(self):
        self.assertEqual(parting_of(SHEAF, SHEAF), [])
        self.assertEqual(parting_of(book(), SHEAF), [])
        self.assertEqual(parting_of(SHEAF, shuffled(SHEAF, 4)), [])

    def test_other_folk_and_another_age_part_nothing(self):
        other = (((0, 1), (2, 3)), 9999, (changed_at(deed(0), 3, 2),))
        self.assertEqual(parting_of(book(deed(0)), other), [])

    def test_as_known(self):
        one, other = book(deed(0)), book(deed(0), act(1, "void", 0, 20, 30))
        self.assertEqual(parting_of(one, other), [(0, 20, "stands", "void")])
        self.assertEqual(parting_of(one, other, 30), [(0, 20, "stands", "void")])
        self.assertEqual(parting_of(one, other, 29), [])

    def test_no_day(self):
        for thing in NO_DAYS:
            with self.assertRaises(NoDay):
                parting_of(SHEAF, book(), thing)

    def test_day_by_day_either_way_about(self):
        for seed in range(120):
            one, other = random_book(seed, most=16), random_book(seed + 1000, most=16)
            for k in (1, 3, 6, 9999):
                told = told_parting(one, other, k)
                self.assertEqual(parting_of(one, other, k), told)
                self.assertEqual(parting_of(other, one, k), [(n, day, b, a) for n, day, a, b in told])
                self.assertEqual(parting_of(shuffled(one, 1), shuffled(other, 2), k), told)

    def test_days_far_apart(self):
        days = (0, 3, 700, 701, 5000, 9998, 9999)
        for seed in range(60):
            one, other = random_book(seed, most=16), random_book(seed + 1000, most=16)
            told = [(n, days[day], a, b) for n, day, a, b in parting_of(one, other, 5)]
            self.assertEqual(parting_of(stretched(one, days), stretched(other, days), days[5]), told)


class Late(unittest.TestCase):
    def test_what_a_late_void_turns(self):
        sheaf = book(deed(0, 5), deed(1, 9, rests=(0,)), deed(2, 5), deed(3, 50, rests=(1,)))
        told = [(0, 20, "stands", "void"), (1, 20, "stands", "fallen"), (3, 50, "stands", "fallen")]
        self.assertEqual(late_of(sheaf, act(4, "void", 0, 20, 30)), told)
        self.assertEqual(late_of(sheaf, act(4, "void", 0, 20, 30), 30), told)
        self.assertEqual(late_of(sheaf, act(4, "void", 0, 20, 30), 29), [])

    def test_a_late_deed_turns_nothing(self):
        self.assertEqual(late_of(SHEAF, deed(9, rests=(1, 7))), [])

    def test_a_late_undone(self):
        sheaf = book(deed(0), act(1, "void", 0, 20))
        self.assertEqual(late_of(sheaf, act(2, "undone", 1, 30)), [(0, 30, "void", "stands")])
        self.assertEqual(late_of(sheaf, act(2, "undone", 1, 15)), [(0, 20, "void", "stands")])

    def test_the_refusals(self):
        rows = [(NoEntry, SHEAF, deed(1, hand=4)), (NoEntry, SHEAF, None), (Twice, SHEAF, act(7, "void", 2)),
                (NoName, FULL, act(29, "void", 1)), (NoName, SHEAF, act(9, "void", 2)), (TooMany, FULL, deed(29))]
        for error, sheaf, entry in rows:
            for more in ((), (50,), (-1,), (True,), ([],)):
                with self.assertRaises(error) as caught:
                    late_of(sheaf, entry, *more)
                self.assertIs(type(caught.exception), error)
        for thing in NO_ENTRIES:
            with self.assertRaises(NoEntry):
                late_of(SHEAF, thing, thing)
        with self.assertRaises(Twice) as caught:
            late_of(SHEAF, deed(7), None)
        self.assertEqual(caught.exception.at, 7)

    def test_no_day(self):
        for thing in NO_DAYS:
            with self.assertRaises(NoDay):
                late_of(SHEAF, deed(9), thing)

    def test_day_by_day_and_not_ahead_of_the_entry(self):
        looked = 0
        for seed in range(150):
            sheaf = random_book(seed, most=12)
            for entry in [entry for entry in sheaf[2] if not named_by(sheaf, entry[0])]:
                less = less_one(sheaf, entry)
                for k in (1, 3, 6, 9999):
                    told = late_of(less, entry, k)
                    looked += len(told)
                    self.assertEqual(told, told_parting(less, sheaf, k))
                    for row in told:
                        self.assertGreaterEqual(row[1], entry[1])
                    if k < entry[2]:
                        self.assertEqual(told, [])
        self.assertGreater(looked, 100)


if __name__ == "__main__":
    unittest.main()
