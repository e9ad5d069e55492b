"""Points 41 and 42: courses, what was learned, the last day on which a deed stands."""

import unittest

from deedsheaf.courses import course_of, last_stand, learned_of
from deedsheaf.standing import standing_of
from tests.helper import (act, book, deed, less_one, lines_run, named_by, random_book, shuffled, stretched,
                          told_deeds, told_standing, told_turns)

# Each has day 0 ahead and 9999 behind; the turns of a book of days 0 to 6 are moved there with its entries.
STRETCHES = ((0, 1, 2, 3, 4, 5, 9999), (0, 9993, 9994, 9996, 9997, 9998, 9999), (0, 3, 700, 701, 5000, 9998, 9999))


class Course(unittest.TestCase):
    def test_a_deed_that_stands_from_its_day_on(self):
        self.assertEqual(course_of(book(deed(0, 40, 50)), 0), [(0, "ahead"), (40, "stands")])

    def test_a_deed_of_day_0(self):
        self.assertEqual(course_of(book(deed(0, 0, 0)), 0), [(0, "stands")])
        self.assertEqual(course_of(book(deed(0, 0, 0), act(1, "void", 0, 0, 0)), 0), [(0, "void")])

    def test_a_deed_of_the_last_day(self):
        self.assertEqual(course_of(book(deed(0, 9999)), 0), [(0, "ahead"), (9999, "stands")])

    def test_a_deed_not_known_yet_is_unknown_on_all_days(self):
        sheaf = book(deed(0, 40, 50), act(1, "void", 0, 60, 20))
        self.assertEqual(course_of(sheaf, 0, 49), [(0, "unknown")])
        self.assertEqual(course_of(sheaf, 0, 50), [(0, "ahead"), (40, "stands"), (60, "void")])

    def test_every_word_by_days_far_apart(self):
        sheaf = book(deed(0, 0, 0), deed(1, 10, 0, rests=(0,)), act(2, "paid", 1, 900, 0), act(3, "void", 0, 5000, 0),
                     act(4, "undone", 3, 9998, 0), act(5, "void", 1, 9999, 0))
        told = [(0, "ahead"), (10, "stands"), (900, "paid"), (5000, "fallen"), (9998, "paid"), (9999, "void")]
        self.assertEqual(course_of(sheaf, 1), told)
        self.assertEqual(course_of(sheaf, 0), [(0, "stands"), (5000, "void"), (9998, "stands")])

    def test_what_matters_nothing_has_no_tuple(self):
        sheaf = book(deed(0, 5), act(1, "paid", 0, 20), act(2, "paid", 0, 30), deed(3, 40, rests=(0,)),
                     act(4, "undone", 1, 50), deed(6, 60), act(7, "undone", 2, 70))
        self.assertEqual(course_of(sheaf, 0), [(0, "ahead"), (5, "stands"), (20, "paid"), (70, "stands")])

    def test_two_turns_on_one_day_are_one(self):
        sheaf = book(deed(0, 5), act(1, "void", 0, 20), act(2, "undone", 1, 20), act(3, "paid", 0, 20))
        self.assertEqual(course_of(sheaf, 0), [(0, "ahead"), (5, "stands"), (20, "paid")])

    def test_an_act_of_a_day_ahead_of_its_deeds(self):
        self.assertEqual(course_of(book(deed(0, 30), act(1, "void", 0, 20)), 0), [(0, "ahead"), (30, "void")])

    def test_day_by_day(self):
        for seed in range(150):
            sheaf = random_book(seed, most=12)
            for number in told_deeds(sheaf):
                for k in (0, 2, 4, 6, 9999):
                    words = [told_standing(sheaf, number, d, k) for d in range(9)]
                    self.assertEqual(course_of(sheaf, number, k), told_turns(words))

    def test_days_far_apart(self):
        for seed in range(60):
            sheaf = random_book(seed, most=12)
            for days in STRETCHES:
                for number in told_deeds(sheaf):
                    for k in (1, 3, 6):
                        told = [(days[day], word) for day, word in course_of(sheaf, number, k)]
                        self.assertEqual(course_of(stretched(sheaf, days), number, days[k]), told)


class Learned(unittest.TestCase):
    def test_over_known_days(self):
        sheaf = book(deed(0, 10, 30), act(1, "void", 0, 10, 40), act(2, "undone", 1, 20, 9999))
        self.assertEqual(learned_of(sheaf, 0, 9), [(0, "unknown"), (30, "ahead")])
        self.assertEqual(learned_of(sheaf, 0, 10), [(0, "unknown"), (30, "stands"), (40, "void")])
        self.assertEqual(learned_of(sheaf, 0, 20), [(0, "unknown"), (30, "stands"), (40, "void"), (9999, "stands")])

    def test_written_on_day_0(self):
        self.assertEqual(learned_of(book(deed(0, 9999, 0)), 0, 0), [(0, "ahead")])
        self.assertEqual(learned_of(book(deed(0, 9999, 0)), 0, 9999), [(0, "stands")])

    def test_known_day_by_known_day(self):
        for seed in range(150):
            sheaf = random_book(seed, most=12)
            for number in told_deeds(sheaf):
                for d in (0, 2, 4, 6, 9999):
                    words = [told_standing(sheaf, number, d, k) for k in range(9)]
                    self.assertEqual(learned_of(sheaf, number, d), told_turns(words))

    def test_known_days_far_apart(self):
        for seed in range(60):
            sheaf = random_book(seed, most=12)
            for days in STRETCHES:
                for number in told_deeds(sheaf):
                    for d in (1, 3, 6):
                        told = [(days[day], word) for day, word in learned_of(sheaf, number, d)]
                        self.assertEqual(learned_of(stretched(sheaf, days), number, days[d]), told)


class LastStand(unittest.TestCase):
    def test_a_deed_that_nobody_ends(self):
        self.assertEqual(last_stand(book(deed(0, 40, 50)), 0), 9999)
        self.assertEqual(last_stand(book(deed(0, 9999, 50)), 0), 9999)

    def test_the_day_ahead_of_an_end(self):
        for word in ("void", "paid"):
            sheaf = book(deed(0, 40, 50), act(1, word, 0, 70, 60))
            self.assertEqual(last_stand(sheaf, 0), 69)
            self.assertEqual(last_stand(sheaf, 0, 60), 69)
            self.assertEqual(last_stand(sheaf, 0, 59), 9999)

    def test_none(self):
        self.assertIsNone(last_stand(book(deed(0, 40, 50)), 0, 49))
        self.assertIsNone(last_stand(book(deed(0, 40, 50), act(1, "paid", 0, 40, 50)), 0))
        self.assertIsNone(last_stand(book(deed(0, 0, 0), act(1, "void", 0, 0, 0)), 0))

    def test_day_0_is_a_day(self):
        told = last_stand(book(deed(0, 0, 0), act(1, "void", 0, 1, 0)), 0)
        self.assertEqual((told, type(told)), (0, int))

    def test_day_9998(self):
        self.assertEqual(last_stand(book(deed(0, 0, 0), act(1, "void", 0, 9999, 0)), 0), 9998)

    def test_the_last_of_several_spans(self):
        ends = [deed(0, 10), act(1, "void", 0, 20), act(2, "undone", 1, 30), act(3, "paid", 0, 40)]
        self.assertEqual(last_stand(book(*ends), 0), 39)
        self.assertEqual(last_stand(book(*ends, act(4, "undone", 3, 9999)), 0), 9999)

    def test_day_by_day(self):
        for seed in range(150):
            sheaf = random_book(seed, most=12)
            for number in told_deeds(sheaf):
                for k in (0, 2, 4, 6):
                    stands = [d for d in range(8) if told_standing(sheaf, number, d, k) == "stands"]
                    told = None if not stands else 9999 if stands[-1] == 7 else stands[-1]
                    self.assertEqual(last_stand(sheaf, number, k), told)


class NotDayByDay(unittest.TestCase):
    def test_days_far_apart_take_no_more_steps_than_days_nearby(self):
        near = book(deed(0, 0, 0), act(1, "void", 0, 1, 1), act(2, "undone", 1, 2, 2))
        far = book(deed(0, 0, 0), act(1, "void", 0, 5000, 5000), act(2, "undone", 1, 9999, 9999))
        for tell in (course_of, learned_of, last_stand):
            self.assertEqual(lines_run(tell, far, 0, 9999), lines_run(tell, near, 0, 9999))
            self.assertLess(lines_run(tell, far, 0, 9999), 5000)


class WhatMattersNothing(unittest.TestCase):
    def test_the_order_of_entries(self):
        for seed in range(40):
            sheaf = random_book(seed, most=12)
            other = shuffled(sheaf, seed + 1)
            for number in told_deeds(sheaf):
                self.assertEqual(course_of(sheaf, number, 4), course_of(other, number, 4))
                self.assertEqual(learned_of(sheaf, number, 4), learned_of(other, number, 4))
                self.assertEqual(last_stand(sheaf, number, 4), last_stand(other, number, 4))

    def test_ahead_of_an_entrys_day_the_course_is_as_without_it(self):
        for sheaf, less, entry, number in lessened():
            for k in (2, 4, 9999):
                both = [[turn for turn in course_of(one, number, k) if turn[0] < entry[1]] for one in (sheaf, less)]
                self.assertEqual(*both)
            if entry[1] > 0:
                self.assertEqual(learned_of(sheaf, number, entry[1] - 1), learned_of(less, number, entry[1] - 1))

    def test_as_known_ahead_of_its_writing_all_is_as_without_it(self):
        for sheaf, less, entry, number in lessened():
            for d in (2, 4, 9999):
                both = [[turn for turn in learned_of(one, number, d) if turn[0] < entry[2]] for one in (sheaf, less)]
                self.assertEqual(*both)
            if entry[2] > 0:
                k = entry[2] - 1
                self.assertEqual(course_of(sheaf, number, k), course_of(less, number, k))
                self.assertEqual(last_stand(sheaf, number, k), last_stand(less, number, k))

    def test_from_the_greatest_of_all_days_on_nothing_turns(self):
        for seed in range(60):
            sheaf = random_book(seed, most=12)
            day, written = (max(entry[place] for entry in sheaf[2]) for place in (1, 2))
            for number in told_deeds(sheaf):
                self.assertLessEqual(course_of(sheaf, number)[-1][0], day)
                self.assertLessEqual(learned_of(sheaf, number, 4)[-1][0], written)
                for d, k in ((day + 1, 9999), (9999, written + 1), (9999, 9999)):
                    self.assertEqual(standing_of(sheaf, number, d, k), standing_of(sheaf, number, day, written))
                self.assertEqual(course_of(sheaf, number)[-1][1], standing_of(sheaf, number, 9999))


def lessened():
    """Books, the same without an entry that nobody names, that entry, and the number of a deed of both."""
    for seed in range(60):
        sheaf = random_book(seed, most=10)
        for entry in sheaf[2]:
            if not named_by(sheaf, entry[0]):
                less = less_one(sheaf, entry)
                for number in told_deeds(less):
                    yield sheaf, less, entry, number


if __name__ == "__main__":
    unittest.main()
