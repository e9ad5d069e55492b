"""Points 81, 82 and 83: the orders of a lost book that fit words of copies, and the words that clash."""

import itertools
import unittest

from deedsheaf.errors import NoSize, NoWords
from deedsheaf.lost import (clash_holds, first_clash, first_order, open_pages, order_fits, orders_many,
                            settled_pages)
from tests.helper import (ODD_THINGS, all_copy_words, changed_at, lines_run, orders_of, random_words, told_clashes,
                          told_orders, twisted)

TELLERS = (orders_many, first_order, open_pages, settled_pages, first_clash,
           lambda size, words: order_fits(size, words, ()), lambda size, words: clash_holds(size, words, ()))
MANY_ORDERS = {1: 1, 2: 2, 3: 6, 4: 24, 5: 120, 6: 720, 7: 5040}
NO_SIZES = [*ODD_THINGS, 0, 8, 9, -7, 10 ** 38]
# A clash of four words, among others that do not matter to it.
ROUND = (("not", 4, 0), ("ahead", 0, 1), ("not", 4, 1), ("ahead", 1, 2), ("ahead", 2, 3), ("ahead", 3, 0))


class Sizes(unittest.TestCase):
    def test_no_size_of_whatever_kind(self):
        for tell in TELLERS:
            for thing in NO_SIZES:
                with self.assertRaises(NoSize) as caught:
                    tell(thing, ())
                self.assertIs(type(caught.exception), NoSize)

    def test_from_one_to_seven(self):
        for tell in TELLERS:
            for size in range(1, 8):
                tell(size, ())

    def test_no_size_ahead_of_no_words(self):
        for tell in TELLERS:
            for thing in NO_SIZES:
                for words in (None, [], (None,), thing, (("at", 0),)):
                    with self.assertRaises(NoSize):
                        tell(thing, words)

    def test_refused_ahead_of_a_thing_of_whatever_kind(self):
        for tell in (order_fits, clash_holds):
            for thing in ODD_THINGS:
                with self.assertRaises(NoSize):
                    tell(0, (), thing)
                with self.assertRaises(NoWords):
                    tell(1, [], thing)


class Words(unittest.TestCase):
    def refused(self, size, words):
        for tell in TELLERS:
            with self.assertRaises(NoWords, msg=(size, words)) as caught:
                tell(size, words)
            self.assertIs(type(caught.exception), NoWords)

    def taken(self, size, words):
        for tell in TELLERS:
            tell(size, words)

    def test_of_whatever_kind(self):
        for thing in [thing for thing in ODD_THINGS if thing != ()]:
            self.refused(7, thing)
            self.refused(1, thing)

    def test_of_whatever_kind_within(self):
        for thing in ODD_THINGS:
            self.refused(7, (thing,))
            self.refused(7, (("at", 0, 1), thing))
            self.refused(7, ((thing, 0, 1),))
            self.refused(7, (("at", thing, 1),))
            self.refused(7, (("not", 1, thing),))
            self.refused(7, (("ahead", 2, thing),))

    def test_a_list_for_a_tuple(self):
        self.refused(7, [])
        self.refused(7, [("at", 0, 1)])
        self.refused(7, (["at", 0, 1],))
        self.refused(7, {("at", 0, 1): True})

    def test_eight_words_and_nine(self):
        self.taken(7, (("at", 0, 1),) * 8)
        self.refused(7, (("at", 0, 1),) * 9)

    def test_longer_and_shorter_words(self):
        for word in ((), ("at",), ("at", 0), ("at", 0, 1, 2), ("ahead", 0, 1, 2), ("not", 0), (0, 1), (0, 1, "at")):
            self.refused(7, (word,))

    def test_other_texts(self):
        for text in ("", "At", "AT", "at ", " at", "behind", "notat", "ahea", "aheads", "a"):
            self.refused(7, ((text, 0, 1),))

    def test_numbers_at_the_bound_and_beyond(self):
        for size in range(1, 8):
            for word in ("at", "not"):
                self.taken(size, ((word, size - 1, size - 1), (word, 0, 0), (word, 0, size - 1), (word, size - 1, 0)))
            for word in ("at", "not", "ahead"):
                for pair in ((size, 0), (0, size), (-1, 0), (0, -1), (size, size), (10 ** 39, 0), (0, -10 ** 39)):
                    self.refused(size, ((word, *pair),))
        for size in range(2, 8):
            self.taken(size, (("ahead", 0, size - 1),))
            self.taken(size, (("ahead", size - 1, 0),))

    def test_truths_are_no_numbers(self):
        for word in ("at", "not", "ahead"):
            for pair in ((True, 2), (2, True), (False, 2), (2, False), (0, True), (True, 0), ("0", 1), (0, "1")):
                self.refused(7, ((word, *pair),))

    def test_a_deed_ahead_of_itself(self):
        for size in range(1, 8):
            for number in range(size):
                self.refused(size, (("ahead", number, number),))
                self.taken(size, (("at", number, number), ("not", number, number)))

    def test_the_same_word_again(self):
        self.assertEqual(orders_many(3, (("at", 0, 1), ("at", 0, 1))), 2)
        self.assertEqual(orders_many(3, (("ahead", 0, 1),) * 8), 3)


class Orders(unittest.TestCase):
    def test_without_words(self):
        for size, many in MANY_ORDERS.items():
            self.assertEqual(orders_many(size, ()), many)
            self.assertEqual(first_order(size, ()), tuple(range(size)))
            self.assertEqual(open_pages(size, ()), [tuple(range(size))] * size)
            self.assertEqual(settled_pages(size, ()), (0,) if size == 1 else (None,) * size)

    def test_words_that_fit(self):
        words = (("at", 2, 0), ("ahead", 3, 1), ("not", 3, 1))
        self.assertEqual(orders_many(4, words), 1)
        self.assertEqual(first_order(4, words), (2, 0, 3, 1))
        self.assertEqual(open_pages(4, words), [(2,), (0,), (3,), (1,)])
        self.assertEqual(settled_pages(4, words), (2, 0, 3, 1))

    def test_some_pages_are_settled_and_others_not(self):
        words = (("at", 1, 2), ("not", 0, 0))
        self.assertEqual(orders_many(4, words), 4)
        self.assertEqual(first_order(4, words), (2, 0, 1, 3))
        self.assertEqual(open_pages(4, words), [(2, 3), (0, 2, 3), (1,), (0, 2, 3)])
        self.assertEqual(settled_pages(4, words), (None, None, 1, None))

    def test_a_page_settled_by_no_word_of_its_own(self):
        words = (("ahead", 6, 5), ("ahead", 5, 4), ("ahead", 4, 3), ("ahead", 3, 2), ("ahead", 2, 1), ("ahead", 1, 0))
        self.assertEqual(orders_many(7, words), 1)
        self.assertEqual(settled_pages(7, words), (6, 5, 4, 3, 2, 1, 0))
        self.assertEqual(settled_pages(7, words[:5]), (None,) * 7)
        self.assertEqual(settled_pages(7, words[:5] + (("at", 0, 0),)), (0, 6, 5, 4, 3, 2, 1))
        self.assertEqual(settled_pages(3, (("not", 0, 1), ("not", 0, 2))), (0, None, None))

    def test_words_that_clash(self):
        for words in ((("at", 0, 0), ("not", 0, 0)), (("at", 0, 1), ("at", 0, 2)), (("at", 0, 1), ("at", 2, 1)),
                      (("ahead", 0, 1), ("ahead", 1, 0)), (("ahead", 0, 1), ("at", 1, 0)), ROUND):
            for size in range(5, 8):
                self.assertEqual(orders_many(size, words), 0)
                self.assertIsNone(first_order(size, words))
                self.assertEqual(open_pages(size, words), [()] * size)
                self.assertEqual(settled_pages(size, words), (None,) * size)

    def test_a_book_of_one_page(self):
        self.assertEqual(orders_many(1, (("at", 0, 0),)), 1)
        self.assertEqual(first_order(1, (("at", 0, 0),)), (0,))
        self.assertEqual(orders_many(1, (("not", 0, 0),)), 0)
        self.assertIsNone(first_order(1, (("not", 0, 0),)))
        self.assertEqual((open_pages(1, (("not", 0, 0),)), settled_pages(1, (("not", 0, 0),))), ([()], (None,)))
        self.assertEqual(first_clash(1, (("at", 0, 0), ("not", 0, 0))), (1,))

    def test_they_are_told_without_going_through_all(self):
        for tell in TELLERS:
            self.assertLess(lines_run(tell, 7, ()), 10000)
            self.assertLess(lines_run(tell, 7, (("not", 0, 0), ("not", 1, 1))), 10000)

    def look_at(self, size, words):
        orders = told_orders(size, words)
        pages = [tuple(sorted({order[page] for order in orders})) for page in range(size)]
        self.assertEqual(orders_many(size, words), len(orders))
        self.assertEqual(first_order(size, words), orders[0] if orders else None)
        self.assertEqual(open_pages(size, words), pages)
        settled = tuple(deeds[0] if len(deeds) == 1 else None for deeds in pages)
        self.assertEqual(settled_pages(size, words), settled)
        return orders

    def test_each_one_and_two_words_against_all_orders(self):
        for size in range(1, 8):
            for word in all_copy_words(size):
                self.look_at(size, (word,))
        for size in range(1, 5):
            for words in itertools.product(all_copy_words(size), repeat=2):
                self.look_at(size, words)

    def test_many_words_against_all_orders(self):
        fitting = 0
        for seed in range(900):
            size = 1 + seed % 7
            words = random_words(seed, size)
            fitting += len(self.look_at(size, words)) > 0
            turned = words[::-1]
            self.assertEqual(open_pages(size, turned), open_pages(size, words))
        self.assertGreater(fitting, 200)
        self.assertLess(fitting, 700)


class OrderFits(unittest.TestCase):
    def test_all_orders(self):
        for seed in range(120):
            size = 1 + seed % 6
            words = random_words(seed, size, 4)
            fitting = set(told_orders(size, words))
            for order in orders_of(size):
                self.assertIs(order_fits(size, words, order), order in fitting)

    def test_what_is_no_order(self):
        for thing in ((), (0,), (0, 1), (0, 1, 2, 3), (0, 1, 2, 2), (0, 0, 1, 2), (0, 1, 1),
                      (1, 2, 3), (0, 1, -1), (0, 0, 0), [0, 1, 2], "012",
                      (0, 1, "2"), (0, 1, None), ((0, 1, 2),), {0: 0, 1: 1, 2: 2}, (0, 1, [2]), (0, 1, {}),
                      (0, 1, (2,)), (0, 1, 10 ** 39)):
            self.assertIs(order_fits(3, (), thing), False)
        self.assertIs(order_fits(3, (), (0, 1, 2)), True)

    def test_truths_are_no_deeds(self):
        for thing in ((False, 1, 2), (0, True, 2), (False, True, 2), (True, 0, 2), (2, False, 1)):
            self.assertIs(order_fits(3, (), thing), False)
        self.assertIs(order_fits(1, (), (False,)), False)
        self.assertIs(order_fits(1, (), (0,)), True)
        self.assertIs(order_fits(2, (), (0, True)), False)

    def test_of_whatever_kind(self):
        for size in range(2, 8):
            right = tuple(range(size))
            for thing in ODD_THINGS:
                self.assertIs(order_fits(size, (), thing), False)
                for place in range(size):
                    self.assertIs(order_fits(size, (), changed_at(right, place, thing)), False)

    def test_none_where_words_clash(self):
        for order in orders_of(5):
            self.assertIs(order_fits(5, ROUND, order), False)

    def test_the_first_order_fits(self):
        for seed in range(200):
            size = 1 + seed % 7
            words = random_words(seed, size, 5)
            told = first_order(size, words)
            self.assertIs(order_fits(size, words, told), told is not None)


class Clashes(unittest.TestCase):
    def test_the_fewest_go_ahead_of_the_first(self):
        self.assertEqual(first_clash(5, ROUND), (1, 3, 4, 5))
        self.assertEqual(first_clash(5, ROUND + (("ahead", 1, 0),)), (1, 6))
        self.assertEqual(first_clash(5, ROUND + (("ahead", 2, 1), ("ahead", 1, 0))), (1, 7))
        self.assertEqual(first_clash(5, ROUND[::-1]), (0, 1, 2, 4))

    def test_none_where_some_order_fits(self):
        for size in range(1, 8):
            self.assertIsNone(first_clash(size, ()))
            self.assertIs(clash_holds(size, (), ()), False)
        self.assertIsNone(first_clash(5, ROUND[:5]))

    def test_a_clash_of_one_word(self):
        words = (("at", 0, 0), ("not", 0, 0), ("not", 0, 0))
        self.assertEqual(first_clash(1, words), (1,))
        self.assertIs(clash_holds(1, words, (1,)), True)
        self.assertIs(clash_holds(1, words, (2,)), True)
        self.assertIs(clash_holds(1, words, (0,)), False)
        self.assertIs(clash_holds(1, words, (1, 2)), False)
        self.assertIs(clash_holds(1, words, (0, 1)), False)

    def test_the_same_word_twice(self):
        words = (("at", 0, 0), ("at", 0, 0), ("at", 1, 0), ("at", 1, 0))
        self.assertEqual(first_clash(3, words), (0, 2))
        for clash in ((0, 2), (0, 3), (1, 2), (1, 3)):
            self.assertIs(clash_holds(3, words, clash), True)
        for row in ((0, 1), (2, 3), (0, 1, 2), (0, 2, 3)):
            self.assertIs(clash_holds(3, words, row), False)

    def test_a_clash_of_seven(self):
        words = tuple(("not", 0, page) for page in range(7)) + (("ahead", 1, 2),)
        self.assertEqual(first_clash(7, words), (0, 1, 2, 3, 4, 5, 6))
        self.assertIs(clash_holds(7, words, (0, 1, 2, 3, 4, 5, 6)), True)
        self.assertIs(clash_holds(7, words, (0, 1, 2, 3, 4, 5, 6, 7)), False)

    def test_a_place_more_or_less(self):
        clash = (1, 3, 4, 5)
        self.assertIs(clash_holds(5, ROUND, clash), True)
        for place in range(4):
            self.assertIs(clash_holds(5, ROUND, clash[:place] + clash[place + 1:]), False)
        for row in ((0, *clash), (1, 2, 3, 4, 5), (0, 1, 2, 3, 4, 5), (*clash, 6)):
            self.assertIs(clash_holds(5, ROUND, row), False)

    def test_what_is_no_rising_tuple_of_places(self):
        for thing in ((1, 1, 3, 4, 5), (1, 3, 4, 5, 5), (5, 4, 3, 1), (1, 4, 3, 5), [1, 3, 4, 5], (True, 3, 4, 5),
                      (-1, 1, 3, 4, 5), (1, 3, 4, -1), (1, 3, 4, 6), (1, 3, 4, "5"), (1, 3, 4, None), ((1, 3, 4, 5),),
                      {1: 1, 3: 3, 4: 4, 5: 5}, "1345", (1, 3, 4, [5]), (1, 3, 4, 10 ** 39), (-5, -3, -2, -1)):
            self.assertIs(clash_holds(5, ROUND, thing), False)

    def test_truths_are_no_places(self):
        words = (("at", 0, 0), ("not", 0, 0), ("not", 1, 0))
        self.assertIs(clash_holds(2, words, (0, 1)), True)
        for thing in ((False, 1), (0, True), (False, True)):
            self.assertIs(clash_holds(2, words, thing), False)
        self.assertIs(clash_holds(1, (("not", 0, 0),), (False,)), False)
        self.assertIs(clash_holds(1, (("not", 0, 0),), (0,)), True)

    def test_of_whatever_kind(self):
        for thing in ODD_THINGS:
            self.assertIs(clash_holds(5, ROUND, thing), False)
            self.assertIs(clash_holds(4, (), thing), False)
            for place in range(4):
                self.assertIs(clash_holds(5, ROUND, changed_at((1, 3, 4, 5), place, thing)), False)

    def test_twisted_clashes(self):
        clashes = told_clashes(5, ROUND)
        self.assertEqual(clashes, [(1, 3, 4, 5)])
        for thing in twisted((1, 3, 4, 5)):
            self.assertIs(clash_holds(5, ROUND, thing), False)

    def test_against_all_rows_of_places(self):
        clashing, several = 0, 0
        for seed in range(420):
            size = 1 + seed % 7
            words = random_words(seed, size, 8 if size < 7 else 6)
            clashes = told_clashes(size, words)
            clashing += bool(clashes)
            several += len(clashes) > 1
            self.assertEqual(first_clash(size, words), clashes[0] if clashes else None)
            self.assertIs(bool(clashes), not told_orders(size, words))
            if seed % 4 == 0:
                for many in range(len(words) + 1):
                    for row in itertools.combinations(range(len(words)), many):
                        self.assertIs(clash_holds(size, words, row), row in clashes)
        self.assertGreater(clashing, 100)
        self.assertGreater(several, 50)


if __name__ == "__main__":
    unittest.main()
