"""Points 61 and 62: witnesses who could be none, and the hands' turns."""

import itertools
import random
import unittest

from deedsheaf.errors import NoDay
from deedsheaf.folk import could_witness, faults_of, often_hands, turns_of
from tests.helper import NO_DAYS, act, book, deed, random_book, shuffled

PAIR = ((-9999, None), (-9999, None))


def with_witness(person, age, day):
    return ((*PAIR, person), age, (deed(4, day, witnesses=(2,)),))


class Faults(unittest.TestCase):
    def told(self, person, age, day):
        """The word of a witness of a deed on a day, None where there is none; both functions tell the same."""
        sheaf = with_witness(person, age, day)
        faults = faults_of(sheaf)
        able = 2 in could_witness(sheaf, day)
        self.assertEqual(able, faults == [])
        if able:
            return None
        self.assertEqual(len(faults), 1)
        self.assertEqual(faults[0][:2], (4, 2))
        return faults[0][2]

    def test_at_the_day_of_birth(self):
        self.assertEqual([self.told((50, None), 0, day) for day in (0, 49, 50, 51)], ["unborn", "unborn", None, None])
        self.assertEqual([self.told((50, None), 1, day) for day in (49, 50, 51)], ["unborn", "young", None])

    def test_at_the_day_of_death(self):
        self.assertEqual([self.told((50, 60), 0, day) for day in (59, 60, 61, 9999)], [None, "dead", "dead", "dead"])

    def test_at_the_day_of_the_age(self):
        self.assertEqual([self.told((50, None), 14, day) for day in (50, 63, 64, 65)], ["young", "young", None, None])
        self.assertEqual([self.told((-10, None), 14, day) for day in (0, 3, 4)], ["young", "young", None])

    def test_dead_goes_ahead_of_young_and_unborn_ahead_of_both(self):
        told = [self.told((50, 52), 14, day) for day in (49, 50, 51, 52, 53)]
        self.assertEqual(told, ["unborn", "young", "young", "dead", "dead"])

    def test_the_outermost_numbers(self):
        self.assertEqual(self.told((9999, None), 0, 9998), "unborn")
        self.assertIsNone(self.told((9999, None), 0, 9999))
        self.assertEqual(self.told((-9999, -9998), 0, 0), "dead")
        self.assertEqual(self.told((-9999, 0), 0, 0), "dead")
        self.assertIsNone(self.told((-9999, 1), 9999, 0))
        self.assertIsNone(self.told((0, None), 9999, 9999))
        self.assertEqual(self.told((0, None), 9999, 9998), "young")

    def test_the_list_rises_whatever_the_order_of_entries(self):
        folk = ((0, None), (0, None), (50, None), (0, 20), (0, None), (35, None))
        entries = (deed(9, 30, witnesses=(2, 3, 4)), deed(2, 60, witnesses=(3,)), deed(5, 40, witnesses=(4, 5)),
                   act(10, "void", 9), deed(30, 0, witnesses=(4, 5)))
        told = [(2, 3, "dead"), (5, 5, "young"), (9, 2, "unborn"), (9, 3, "dead"), (30, 4, "young"), (30, 5, "unborn")]
        for order in itertools.permutations(entries):
            self.assertEqual(faults_of((folk, 10, order)), told)

    def test_givers_and_takers_and_the_written_day_matter_nothing(self):
        folk = ((90, None), (0, 1), (0, 40))
        self.assertEqual(faults_of((folk, 0, (deed(0, 30, 80, witnesses=(2,)),))), [])
        self.assertEqual(faults_of((folk, 0, (deed(0, 80, 30, witnesses=(2,)),))), [(0, 2, "dead")])
        self.assertEqual(faults_of((folk, 0, ())), [])

    def test_a_void_deed_and_one_ahead_have_faults_too(self):
        folk = ((90, None), (0, 1), (0, 40))
        entries = (deed(0, 9999, 9999, witnesses=(2,)), act(1, "void", 0, 0, 0))
        self.assertEqual(faults_of((folk, 0, entries)), [(0, 2, "dead")])


class CouldWitness(unittest.TestCase):
    FOLK = ((0, None), (10, 80), (20, 21), (-5, None), (60, None))

    def test_the_persons_of_a_day(self):
        rows = ((0, 0, [0, 3]), (0, 10, [0, 1, 3]), (0, 20, [0, 1, 2, 3]), (0, 21, [0, 1, 3]), (0, 80, [0, 3, 4]),
                (14, 8, []), (14, 9, [3]), (14, 24, [0, 1, 3]), (14, 20, [0, 3]), (0, 9999, [0, 3, 4]),
                (9999, 9998, [3]), (9999, 9999, [0, 3]))
        for age, d, told in rows:
            self.assertEqual(could_witness((self.FOLK, age, ()), d), told)

    def test_entries_matter_nothing(self):
        entries = (deed(0, 5, witnesses=(2,)), act(1, "void", 0))
        for d in (0, 20, 90):
            self.assertEqual(could_witness((self.FOLK, 3, entries), d), could_witness((self.FOLK, 3, ()), d))

    def test_no_day(self):
        for thing in NO_DAYS:
            with self.assertRaises(NoDay):
                could_witness((self.FOLK, 3, ()), thing)


def told_hands(sheaf):
    """The turns and the hands of several turns, by groups of the entries in the order of their writing."""
    rows = sorted((entry[2], entry[0], entry[3]) for entry in sheaf[2])
    turns = []
    for hand, group in itertools.groupby(rows, key=lambda row: row[2]):
        numbers = [row[1] for row in group]
        turns.append((hand, numbers[0], numbers[-1]))
    hands = [turn[0] for turn in turns]
    return turns, sorted({hand for hand in hands if hands.count(hand) > 1})


class Hands(unittest.TestCase):
    def told(self, *rows):
        """Turns and often hands of deeds by (number, written, hand), the same in whatever order they stand."""
        deeds = [deed(number, 9999 - written, written, hand=hand) for number, written, hand in rows]
        told = [(turns_of(book(*order)), often_hands(book(*order))) for order in itertools.permutations(deeds)]
        self.assertEqual([row for row in told if row != told[0]], [])
        return told[0]

    def test_an_empty_book_has_none(self):
        self.assertEqual((turns_of(book()), often_hands(book())), ([], []))

    def test_one_entry_is_a_turn(self):
        self.assertEqual(self.told((7, 3, 2)), ([(2, 7, 7)], []))
        self.assertEqual(self.told((0, 0, 0)), ([(0, 0, 0)], []))

    def test_by_written_days_not_by_numbers(self):
        self.assertEqual(self.told((1, 30, 0), (2, 20, 1), (3, 10, 0)), ([(0, 3, 3), (1, 2, 2), (0, 1, 1)], [0]))
        self.assertEqual(self.told((1, 30, 0), (2, 20, 0), (3, 10, 0)), ([(0, 3, 1)], []))

    def test_those_of_one_day_by_numbers(self):
        told = self.told((5, 10, 0), (3, 10, 1), (4, 10, 0), (6, 10, 1))
        self.assertEqual(told, ([(1, 3, 3), (0, 4, 5), (1, 6, 6)], [1]))
        self.assertEqual(self.told((10, 10, 0), (9, 10, 1)), ([(1, 9, 9), (0, 10, 10)], []))

    def test_many_that_follow_one_another_are_one_turn(self):
        self.assertEqual(self.told((8, 1, 3), (2, 2, 3), (9, 3, 3), (4, 4, 3), (1, 5, 2)), ([(3, 8, 4), (2, 1, 1)], []))

    def test_the_hands_of_several_turns_rise(self):
        told = self.told((0, 0, 3), (1, 1, 0), (2, 2, 3), (3, 3, 1), (4, 4, 0), (5, 9999, 2))
        self.assertEqual(told, ([(3, 0, 0), (0, 1, 1), (3, 2, 2), (1, 3, 3), (0, 4, 4), (2, 5, 5)], [0, 3]))

    def test_acts_are_entries_too(self):
        sheaf = book(deed(0, 0, 5, hand=1), act(1, "void", 0, 0, 6, hand=2), act(2, "undone", 1, 0, 7, hand=1))
        self.assertEqual(turns_of(sheaf), [(1, 0, 0), (2, 1, 1), (1, 2, 2)])
        self.assertEqual(often_hands(sheaf), [1])

    def test_many_books(self):
        for seed in range(200):
            chance = random.Random(seed)
            folk, age, entries = random_book(seed, most=16, last=5)
            handed = tuple(entry[:3] + (chance.randint(0, 3),) + entry[4:] for entry in entries)
            sheaf = (folk, age, handed)
            self.assertEqual((turns_of(sheaf), often_hands(sheaf)), told_hands(sheaf))
            self.assertEqual(turns_of(shuffled(sheaf, seed)), turns_of(sheaf))


if __name__ == "__main__":
    unittest.main()
