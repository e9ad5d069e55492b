"""Points 21 and 22: which acts are in force, what each deed is."""

import unittest

from deedsheaf.standing import all_standing, in_force, standing_of
from tests.helper import (act, book, deed, random_book, shuffled, told_acts, told_deeds, told_force, told_standing)

# A deed, its void, an undone of this, and so on, each a day later, written ten days behind its day.
CHAIN = book(deed(0, 10, 10), act(1, "void", 0, 20, 30), act(2, "undone", 1, 21, 31), act(3, "undone", 2, 22, 32),
             act(4, "undone", 3, 23, 33))


class Force(unittest.TestCase):
    def test_an_act_from_its_day_on(self):
        sheaf = book(deed(0), act(1, "paid", 0, 20, 30))
        self.assertIs(in_force(sheaf, 1, 19), False)
        self.assertIs(in_force(sheaf, 1, 20), True)
        self.assertIs(in_force(sheaf, 1, 9999), True)
        self.assertIs(in_force(sheaf, 1, 0), False)

    def test_an_act_as_known_from_its_writing_on(self):
        sheaf = book(deed(0), act(1, "paid", 0, 20, 30))
        self.assertIs(in_force(sheaf, 1, 20, 29), False)
        self.assertIs(in_force(sheaf, 1, 20, 30), True)
        self.assertIs(in_force(sheaf, 1, 19, 30), False)
        self.assertIs(in_force(sheaf, 1, 9999, 0), False)

    def test_an_act_on_the_outermost_days(self):
        sheaf = book(deed(0), act(1, "void", 0, 0, 0), act(2, "paid", 0, 9999, 9999))
        self.assertIs(in_force(sheaf, 1, 0, 0), True)
        self.assertIs(in_force(sheaf, 2, 9999, 9999), True)
        self.assertIs(in_force(sheaf, 2, 9999), True)
        self.assertIs(in_force(sheaf, 2, 9998), False)
        self.assertIs(in_force(sheaf, 2, 9999, 9998), False)

    def test_undone_of_undone_of_undone(self):
        rows = {19: (False,) * 4, 20: (True, False, False, False), 21: (False, True, False, False),
                22: (True, False, True, False), 23: (False, True, False, True)}
        for d, told in rows.items():
            self.assertEqual(tuple(in_force(CHAIN, number, d) for number in (1, 2, 3, 4)), told)
            self.assertEqual(tuple(in_force(CHAIN, number, 9999, d + 10) for number in (1, 2, 3, 4)), told)

    def test_an_undone_that_is_not_open_undoes_nothing(self):
        sheaf = book(deed(0), act(1, "void", 0), act(2, "undone", 1, 40, 50))
        self.assertIs(in_force(sheaf, 1, 39), True)
        self.assertIs(in_force(sheaf, 1, 40), False)
        self.assertIs(in_force(sheaf, 1, 40, 49), True)
        self.assertIs(in_force(sheaf, 1, 40, 50), False)

    def test_an_undone_may_be_of_a_day_ahead_of_what_it_is_of(self):
        sheaf = book(deed(0), act(1, "void", 0, 20), act(2, "undone", 1, 15))
        self.assertIs(in_force(sheaf, 2, 15), True)
        self.assertIs(in_force(sheaf, 1, 20), False)

    def test_one_of_several_undones_is_enough(self):
        sheaf = book(deed(0), act(1, "void", 0), act(2, "undone", 1), act(3, "undone", 1), act(4, "undone", 2))
        self.assertIs(in_force(sheaf, 1, 10), False)
        both = book(*sheaf[2], act(5, "undone", 3))
        self.assertIs(in_force(both, 1, 10), True)

    def test_an_act_of_another_one_matters_nothing(self):
        sheaf = book(deed(0), act(1, "void", 0), act(2, "void", 0), act(3, "undone", 2))
        self.assertIs(in_force(sheaf, 1, 10), True)
        self.assertIs(in_force(sheaf, 2, 10), False)


class Standing(unittest.TestCase):
    def test_a_deed_by_day_and_by_known_day(self):
        sheaf = book(deed(0, 20, 30))
        rows = {(20, 30): "stands", (19, 30): "ahead", (20, 29): "unknown", (19, 29): "unknown", (0, 0): "unknown",
                (9999, 9999): "stands", (0, 9999): "ahead", (9999, 0): "unknown"}
        for (d, k), word in rows.items():
            self.assertEqual(standing_of(sheaf, 0, d, k), word)

    def test_void_and_undone_again_by_days(self):
        words = {9: "ahead", 10: "stands", 19: "stands", 20: "void", 21: "stands", 22: "void", 23: "stands"}
        for d, word in words.items():
            self.assertEqual(standing_of(CHAIN, 0, d), word)
        known = {9: "unknown", 10: "stands", 29: "stands", 30: "void", 31: "stands", 32: "void", 33: "stands"}
        for k, word in known.items():
            self.assertEqual(standing_of(CHAIN, 0, 9999, k), word)

    def test_paid_by_days(self):
        sheaf = book(deed(0), act(1, "paid", 0, 20, 30), act(2, "undone", 1, 25, 35))
        for d, word in {19: "stands", 20: "paid", 24: "paid", 25: "stands"}.items():
            self.assertEqual(standing_of(sheaf, 0, d), word)
        for k, word in {29: "stands", 30: "paid", 34: "paid", 35: "stands"}.items():
            self.assertEqual(standing_of(sheaf, 0, 9999, k), word)

    def test_the_first_that_is_so_is_the_one(self):
        rests = (deed(0), act(1, "void", 0))
        acts = (act(3, "paid", 2), act(4, "void", 2))
        late = book(*rests, deed(2, 20, 20, rests=(0,)), *acts)
        self.assertEqual(standing_of(late, 2, 19, 19), "unknown")
        self.assertEqual(standing_of(late, 2, 19, 20), "ahead")
        self.assertEqual(standing_of(late, 2, 20, 20), "void")
        self.assertEqual(standing_of(book(*rests, deed(2, rests=(0,)), acts[0]), 2, 10), "fallen")
        self.assertEqual(standing_of(book(deed(0), deed(2, rests=(0,)), *acts), 2, 10), "void")
        self.assertEqual(standing_of(book(deed(0), deed(2, rests=(0,)), acts[0]), 2, 10), "paid")
        self.assertEqual(standing_of(book(deed(0), deed(2, rests=(0,))), 2, 10), "stands")

    def test_a_row_of_deeds_one_of_them_void_paid_or_both(self):
        row = [deed(n, rests=(n - 1,) if n else ()) for n in range(5)]
        plain = {n: "stands" for n in range(5)}
        for number in range(5):
            behind = {n: "fallen" for n in range(number + 1, 5)}
            paid, void = act(10, "paid", number, 20), act(11, "void", number, 20)
            self.assertEqual(all_standing(book(*row, paid), 20), {**plain, number: "paid"})
            self.assertEqual(all_standing(book(*row, void), 20), {**plain, **behind, number: "void"})
            self.assertEqual(all_standing(book(*row, paid, void), 20), {**plain, **behind, number: "void"})
            later = book(*row, paid, void, act(12, "undone", 11, 30))
            self.assertEqual(all_standing(later, 19), plain)
            self.assertEqual(all_standing(later, 29), {**plain, **behind, number: "void"})
            self.assertEqual(all_standing(later, 30), {**plain, number: "paid"})

    def test_a_fallen_deed_is_paid_again_when_it_falls_no_longer(self):
        sheaf = book(deed(0), deed(1, rests=(0,)), act(2, "paid", 1), act(3, "void", 0, 20), act(4, "undone", 3, 30))
        self.assertEqual([standing_of(sheaf, 1, d) for d in (19, 20, 29, 30)], ["paid", "fallen", "fallen", "paid"])

    def test_either_of_two_rests_is_enough_to_fall(self):
        for number in (0, 1):
            sheaf = book(deed(0), deed(1), deed(2, rests=(0, 1)), act(3, "void", number))
            self.assertEqual(standing_of(sheaf, 2, 10), "fallen")
        paid = book(deed(0), deed(1), deed(2, rests=(0, 1)), act(3, "paid", 0), act(4, "paid", 1))
        self.assertEqual(standing_of(paid, 2, 10), "stands")

    def test_falls_with_a_rest_that_is_ahead_or_unknown(self):
        sheaf = book(deed(0, 20, 30), deed(1, rests=(0,)))
        self.assertEqual(standing_of(sheaf, 1, 19), "fallen")
        self.assertEqual(standing_of(sheaf, 1, 20), "stands")
        self.assertEqual(standing_of(sheaf, 1, 20, 29), "fallen")
        self.assertEqual(standing_of(sheaf, 1, 20, 30), "stands")

    def test_one_of_several_voids_or_paids_is_enough(self):
        for word, told in (("void", "void"), ("paid", "paid")):
            acts = (act(1, word, 0), act(2, word, 0), act(3, "undone", 1))
            self.assertEqual(standing_of(book(deed(0), *acts), 0, 10), told)
            self.assertEqual(standing_of(book(deed(0), *acts, act(4, "undone", 2)), 0, 10), "stands")

    def test_the_dict_of_all_deeds(self):
        self.assertEqual(all_standing(book(), 5), {})
        sheaf = book(act(4, "void", 2), deed(30, 11), deed(2), deed(7, rests=(2,)), deed(8, written=12), deed(9),
                     act(12, "paid", 9))
        told = all_standing(sheaf, 10, 11)
        self.assertIs(type(told), dict)
        self.assertEqual(told, {2: "void", 7: "fallen", 8: "unknown", 9: "paid", 30: "ahead"})


class AgainstTheDocument(unittest.TestCase):
    def test_books_of_many_shapes(self):
        for seed in range(150):
            sheaf = random_book(seed, most=16, last=4)
            for d in range(6):
                for k in range(6):
                    told = {n: told_standing(sheaf, n, d, k) for n in told_deeds(sheaf)}
                    self.assertEqual(all_standing(sheaf, d, k), told)
                    for n in told_deeds(sheaf):
                        self.assertEqual(standing_of(sheaf, n, d, k), told[n])
                    for n in told_acts(sheaf):
                        self.assertIs(in_force(sheaf, n, d, k), told_force(sheaf, n, d, k))

    def test_the_order_of_entries_matters_nothing(self):
        for seed in range(60):
            sheaf = random_book(seed, most=16, last=4)
            other = shuffled(sheaf, seed + 1)
            for d, k in ((1, 4), (2, 2), (4, 1), (9999, 9999)):
                self.assertEqual(list(all_standing(sheaf, d, k).items()), list(all_standing(other, d, k).items()))
                for n in told_acts(sheaf):
                    self.assertIs(in_force(sheaf, n, d, k), in_force(other, n, d, k))


if __name__ == "__main__":
    unittest.main()
