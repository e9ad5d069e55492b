"""Points 2, 3 and 11: folk, entries, books, the numbers of deeds and acts."""

import copy
import unittest

from deedsheaf.books import acts_of, deeds_of, is_book, is_entry, is_folk
from tests.helper import (ACT_WORDS, FOLK, ODD_THINGS, act, book, changed_at, deed, random_book, shuffled,
                          told_acts, told_deeds)

DEED = (9, 0, 9999, 3, "deed", 0, 4, (2, 8), (1, 2, 3))
SMALL = book(deed(0), deed(3, rests=(0,)), act(4, "paid", 0), act(5, "void", 3), act(6, "undone", 4),
             act(7, "undone", 6), act(30, "undone", 5))


class Asking(unittest.TestCase):
    def is_true(self, told):
        self.assertIs(told, True)

    def is_false(self, told, why=None):
        self.assertIs(told, False, why)


class Folk(Asking):
    def test_ordinary_folk(self):
        self.is_true(is_folk(FOLK))
        self.is_true(is_folk(thing=((0, None),)))

    def test_one_to_six_persons(self):
        self.is_false(is_folk(()))
        for many in range(1, 7):
            self.is_true(is_folk(((0, 1),) * many))
        self.is_false(is_folk(((0, 1),) * 7))

    def test_persons_at_the_bounds(self):
        for person in ((-9999, None), (9999, None), (-9999, -9998), (9998, 9999), (-9999, 9999), (0, 1), (-1, 0)):
            self.is_true(is_folk(((0, 1), person)))

    def test_persons_beyond_the_bounds(self):
        wrong = [(-10000, None), (10000, None), (-10000, 0), (0, 10000), (9999, 10000), (10000, 10001), (9999, 9999),
                 (5, 5), (5, 4), (0, -1), (None, None), (None, 5), (0,), (0, 1, 2), (), [0, 1], (True, 5), (False, 5),
                 (0, True), (-1, False), ("0", 1), (0, "1"), (0, ()), ((0,), 1), (0, [1]), 5, None, {0: 1}]
        for person in wrong:
            self.is_false(is_folk((person,)), person)
            self.is_false(is_folk(((0, 1), person)), person)
            self.is_false(is_folk((person, (0, 1))), person)

    def test_a_list_is_no_folk(self):
        self.is_false(is_folk([(0, 1)]))
        self.is_false(is_folk({0: (0, 1)}))

    def test_things_of_whatever_kind(self):
        for thing in [*ODD_THINGS, DEED, SMALL, 0, 1]:
            self.is_false(is_folk(thing))
            self.is_false(is_folk((thing,)))
        for thing in ODD_THINGS:
            if thing != -1:
                self.is_false(is_folk(((thing, None),)))
            if thing is not None:
                self.is_false(is_folk(((0, thing),)))


class Entries(Asking):
    def wrong(self, thing, folk=FOLK):
        self.is_false(is_entry(folk, thing), thing)

    def test_ordinary_entries(self):
        for entry in (DEED, *SMALL[2]):
            self.is_true(is_entry(FOLK, entry))
            self.is_true(is_entry(thing=entry, folk=FOLK))

    def test_heads_of_each_word_at_the_bounds(self):
        for entry in (deed(1), *[act(1, word, 0) for word in ACT_WORDS]):
            for place, last in ((0, 30), (1, 9999), (2, 9999), (3, 3)):
                first = 1 if place == 0 else 0
                for right in (first, last):
                    self.is_true(is_entry(FOLK, changed_at(entry, place, right)))
                for bad in (-1, last + 1, True, False, None, "1", (1,), [1], {}, 10 ** 39):
                    self.wrong(changed_at(entry, place, bad))

    def test_day_and_written_stand_in_either_order(self):
        self.is_true(is_entry(FOLK, deed(1, day=5, written=4)))
        self.is_true(is_entry(FOLK, deed(1, day=4, written=5)))

    def test_words(self):
        for word in ("", "Deed", "deed ", "pay", "voids", "undo", None, 0, True, ["deed"], ("paid",), {}, b"deed"):
            self.wrong(changed_at(DEED, 4, word))
            self.wrong(changed_at(act(5, "paid", 0), 4, word))
        self.wrong(changed_at(DEED, 4, "paid"))
        self.wrong(changed_at(act(5, "paid", 0), 4, "deed"))

    def test_one_part_longer_or_shorter_or_a_list(self):
        for entry in (DEED, *[act(1, word, 0) for word in ACT_WORDS]):
            self.wrong(entry + (0,))
            self.wrong(entry + ((),))
            self.wrong(list(entry))
            for many in range(len(entry)):
                self.wrong(entry[:many])
                self.wrong(entry[many + 1:])

    def test_giver_and_taker(self):
        for giver, taker in ((0, 1), (1, 0), (0, 4), (4, 0)):
            self.is_true(is_entry(FOLK, (1, 0, 0, 0, "deed", giver, taker, (), ())))
        for bad in (-1, 5, 4, True, False, None, "0", (0,), [0]):
            self.wrong(changed_at(changed_at(DEED, 8, ()), 5, bad))
        for bad in (-1, 5, 0, True, False, None, "0", (0,), [0]):
            self.wrong(changed_at(changed_at(DEED, 8, ()), 6, bad))

    def test_one_person_alone_makes_no_deed(self):
        self.wrong((1, 0, 0, 0, "deed", 0, 0, (), ()), folk=((0, None),))
        self.wrong((1, 0, 0, 0, "deed", 0, 1, (), ()), folk=((0, None),))
        self.is_true(is_entry(((0, None),), act(1, "paid", 0)))
        self.is_true(is_entry(((0, None), (1, 2)), (1, 0, 0, 0, "deed", 0, 1, (), ())))

    def test_rests(self):
        for rests in ((), (0,), (8,), (0, 1), (0, 8), (7, 8)):
            self.is_true(is_entry(FOLK, changed_at(DEED, 7, rests)))
        for bad in ((9,), (10,), (-1,), (0, 9), (-1, 0), (1, 1), (2, 1), (0, 1, 2), [0], [], (True,), (False,),
                    (0, True), (None,), ("0",), ((0,),), ([0],), None, 0, "", {}, {0: 1}):
            self.wrong(changed_at(DEED, 7, bad))
        self.wrong(deed(0, rests=(0,)))
        self.is_true(is_entry(FOLK, deed(0)))

    def test_witnesses(self):
        for witnesses in ((), (1,), (3,), (1, 2), (1, 3), (1, 2, 3)):
            self.is_true(is_entry(FOLK, changed_at(DEED, 8, witnesses)))
        for bad in ((0,), (4,), (5,), (-1,), (0, 1), (3, 4), (1, 1), (2, 1), (1, 3, 2), [1], [], (True,), (False,),
                    (True, 2), (None,), ("1",), ((1,),), ([1],), None, 1, "", {}, {1: 1}):
            self.wrong(changed_at(DEED, 8, bad))

    def test_at_most_three_witnesses(self):
        six = ((0, 1),) * 6
        self.is_true(is_entry(six, changed_at(DEED, 8, (2, 3, 5))))
        self.wrong(changed_at(DEED, 8, (1, 2, 3, 5)), folk=six)

    def test_what_an_act_is_of(self):
        for word in ACT_WORDS:
            for of in (0, 8):
                self.is_true(is_entry(FOLK, act(9, word, of)))
            for bad in (9, 10, -1, True, False, None, "0", (0,), [0], {}, 10 ** 39):
                self.wrong(act(9, word, bad))
            self.wrong(act(0, word, 0))

    def test_things_of_whatever_kind(self):
        for thing in [*ODD_THINGS, FOLK, SMALL, 0, 1]:
            self.wrong(thing)
        right = {4: ["deed"], 7: [(), (0,), (1,)], 8: [(), (1,)]}
        for place in range(9):
            for thing in ODD_THINGS:
                if thing not in right.get(place, []):
                    self.wrong(changed_at(DEED, place, thing))
        for place in range(6):
            for thing in ODD_THINGS:
                self.wrong(changed_at(act(9, "void", 0), place, thing))

    def test_no_folk_has_entries(self):
        for thing in ODD_THINGS:
            self.is_false(is_entry(thing, act(1, "paid", 0)))


class Books(Asking):
    def wrong(self, *entries):
        self.is_false(is_book(book(*entries)), entries)

    def test_ordinary_books(self):
        self.is_true(is_book(SMALL))
        self.is_true(is_book(thing=book()))
        for seed in range(200):
            self.is_true(is_book(random_book(seed, most=16)))

    def test_the_order_of_entries_matters_nothing(self):
        for seed in range(30):
            self.is_true(is_book(shuffled(SMALL, seed)))
            self.is_false(is_book(shuffled(book(*SMALL[2][1:]), seed)))

    def test_each_place(self):
        for age in (0, 1, 9999):
            self.is_true(is_book(changed_at(SMALL, 1, age)))
        for age in (-1, 10000, True, False, None, "14", (14,), [14], {}, 10 ** 39):
            self.is_false(is_book(changed_at(SMALL, 1, age)))
        for folk in (list(FOLK), FOLK[:1], (), FOLK + ((5, 5),), FOLK + FOLK, None, 0):
            self.is_false(is_book(changed_at(SMALL, 0, folk)))
        for entries in (list(SMALL[2]), None, 0, "", {}, [], SMALL[2][:1] + (None,), SMALL[2] + ([],)):
            self.is_false(is_book(changed_at(SMALL, 2, entries)))

    def test_one_part_longer_or_shorter_or_a_list(self):
        self.is_false(is_book(SMALL + ((),)))
        self.is_false(is_book(SMALL[:2]))
        self.is_false(is_book(SMALL[1:]))
        self.is_false(is_book(list(SMALL)))

    def test_sixteen_entries_and_seventeen(self):
        entries = [deed(number) for number in range(17)]
        self.is_true(is_book(book(*entries[:16])))
        self.wrong(*entries)
        chain = [deed(0), act(1, "void", 0), *[act(n, "undone", n - 1) for n in range(2, 17)]]
        self.is_true(is_book(book(*chain[:16])))
        self.wrong(*chain)

    def test_an_entry_left_out(self):
        named = {0, 3, 4, 5, 6}
        for entry in SMALL[2]:
            left = [other for other in SMALL[2] if other != entry]
            self.assertIs(is_book(book(*left)), entry[0] not in named)

    def test_an_entry_twice(self):
        for entry in SMALL[2]:
            self.wrong(*SMALL[2], entry)
        self.wrong(deed(1), deed(1, day=11))
        self.wrong(deed(0), deed(1), act(1, "paid", 0))

    def test_an_entry_of_another_number(self):
        for place, entry in enumerate(SMALL[2][:-1]):
            moved = changed_at(SMALL[2], place, changed_at(entry, 0, 29))
            self.assertIs(is_book(book(*moved)), entry[0] == 7)

    def test_what_is_named_is_of_the_right_sort(self):
        base = (deed(0), act(1, "paid", 0), act(2, "void", 0), act(3, "undone", 1))
        self.is_true(is_book(book(*base)))
        for number, deeds_name in ((0, True), (1, False), (2, False), (3, False), (4, False)):
            self.assertIs(is_book(book(*base, deed(5, rests=(number,)))), deeds_name)
            self.assertIs(is_book(book(*base, act(5, "paid", number))), deeds_name)
            self.assertIs(is_book(book(*base, act(5, "void", number))), deeds_name)
            self.assertIs(is_book(book(*base, act(5, "undone", number))), number in (1, 2, 3))

    def test_each_rest_counts(self):
        self.is_true(is_book(book(deed(0), deed(1), deed(2, rests=(0, 1)))))
        self.wrong(deed(0), deed(2, rests=(0, 1)))
        self.wrong(deed(1), deed(2, rests=(0, 1)))

    def test_a_wrong_entry_anywhere(self):
        for place, entry in enumerate(SMALL[2]):
            for bad in (list(entry), changed_at(entry, 0, True), changed_at(entry, 1, -1), entry[:-1]):
                self.is_false(is_book(changed_at(SMALL, 2, changed_at(SMALL[2], place, bad))))

    def test_things_of_whatever_kind(self):
        for thing in [*ODD_THINGS, 0, 1]:
            self.is_false(is_book(thing))
            self.is_false(is_book(changed_at(SMALL, 0, thing)))
            self.is_false(is_book(changed_at(SMALL, 2, (thing,))))
            if thing != ():
                self.is_false(is_book(changed_at(SMALL, 2, thing)))
        for thing in (FOLK, DEED):
            self.is_false(is_book(thing))


class Numbers(unittest.TestCase):
    def test_ordinary_books(self):
        self.assertEqual(deeds_of(SMALL), [0, 3])
        self.assertEqual(acts_of(SMALL), [4, 5, 6, 7, 30])
        self.assertEqual(deeds_of(book=book()), [])
        self.assertEqual(acts_of(book=book()), [])

    def test_rising_for_entries_in_whatever_order(self):
        for seed in range(200):
            sheaf = shuffled(random_book(seed, most=16), seed)
            self.assertEqual(deeds_of(sheaf), told_deeds(sheaf))
            self.assertEqual(acts_of(sheaf), told_acts(sheaf))

    def test_a_told_list_is_the_askers_own(self):
        kept = copy.deepcopy(SMALL)
        for tell, told in ((deeds_of, [0, 3]), (acts_of, [4, 5, 6, 7, 30])):
            first = tell(SMALL)
            self.assertIs(type(first), list)
            first.append(99)
            first[0] = 98
            self.assertEqual(tell(SMALL), told)
        self.assertEqual(SMALL, kept)


if __name__ == "__main__":
    unittest.main()
