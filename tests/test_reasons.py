"""Points 31, 32 and 33: papers of acts and whys of deeds."""

import unittest

from deedsheaf.errors import NoAct
from deedsheaf.reasons import act_paper, act_paper_holds, why_holds, why_of
from tests.helper import (ODD_THINGS, act, all_act_papers, all_whys, book, deed, random_book, shuffled, told_acts,
                          told_deeds, told_force, told_open, told_standing, twisted)

# The void of deed 0 has three undones, of which 4 is undone itself; deed 5 rests on 0 and 1.
SHEAF = book(deed(0), deed(1), act(2, "void", 0), act(3, "undone", 2, 20), act(4, "undone", 2, 15),
             deed(5, rests=(0, 1)), act(6, "undone", 4, 16), act(7, "undone", 2, 25), act(8, "paid", 5, 12),
             act(9, "void", 1, 30), act(10, "paid", 5, 13))


class ActPapers(unittest.TestCase):
    def test_an_act_that_nobody_undid(self):
        self.assertEqual(act_paper(SHEAF, 2, 10), ("yes", 2, ()))
        self.assertEqual(act_paper(SHEAF, 8, 12), ("yes", 8, ()))

    def test_an_undone_act(self):
        self.assertEqual(act_paper(SHEAF, 2, 15), ("no", 2, ("yes", 4, ())))

    def test_an_act_whose_undone_is_undone(self):
        self.assertEqual(act_paper(SHEAF, 2, 16), ("yes", 2, (("no", 4, ("yes", 6, ())),)))

    def test_the_least_undone_in_force_is_taken(self):
        self.assertEqual(act_paper(SHEAF, 2, 25), ("no", 2, ("yes", 3, ())))
        other = book(deed(0), act(1, "void", 0), act(2, "undone", 1), act(3, "undone", 1), act(4, "undone", 1),
                     act(5, "undone", 2))
        self.assertEqual(act_paper(other, 1, 10), ("no", 1, ("yes", 3, ())))

    def test_a_yes_has_a_row_for_each_open_undone_by_numbers(self):
        sheaf = book(deed(0), act(1, "paid", 0), act(2, "undone", 1), act(3, "undone", 1), act(4, "undone", 1, 11),
                     act(5, "undone", 3), act(6, "undone", 2), act(7, "undone", 4, 11))
        rows = (("no", 2, ("yes", 6, ())), ("no", 3, ("yes", 5, ())))
        self.assertEqual(act_paper(sheaf, 1, 10), ("yes", 1, rows))
        self.assertEqual(act_paper(sheaf, 1, 11), ("yes", 1, rows + (("no", 4, ("yes", 7, ())),)))

    def test_no_paper_of_an_act_that_is_not_open(self):
        sheaf = book(deed(0), act(1, "paid", 0, 20, 30))
        self.assertEqual(act_paper(sheaf, 1, 20, 30), ("yes", 1, ()))
        for d, k in ((19, 30), (20, 29), (19, 29), (0, 9999), (9999, 0)):
            with self.assertRaises(NoAct):
                act_paper(sheaf, 1, d, k)
            self.assertIs(act_paper_holds(sheaf, 1, d, k, ("yes", 1, ())), False)
            self.assertIs(act_paper_holds(sheaf, 1, d, k, ("no", 1, ("yes", 1, ()))), False)

    def test_papers_by_another_choice_hold_too(self):
        for number in (3, 7):
            self.assertIs(act_paper_holds(SHEAF, 2, 25, 9999, ("no", 2, ("yes", number, ()))), True)
        self.assertIs(act_paper_holds(SHEAF, 2, 24, 9999, ("no", 2, ("yes", 7, ()))), False)

    def test_papers_of_an_undone_act_do_not_hold(self):
        self.assertIs(act_paper_holds(SHEAF, 2, 25, 9999, ("no", 2, ("yes", 4, ()))), False)
        self.assertIs(act_paper_holds(SHEAF, 2, 25, 9999, ("no", 2, ("yes", 4, (("no", 6, ()),)))), False)
        self.assertIs(act_paper_holds(SHEAF, 4, 25, 9999, ("yes", 4, ())), False)

    def test_papers_of_another_act_or_day_do_not_hold(self):
        paper = act_paper(SHEAF, 2, 16)
        self.assertIs(act_paper_holds(SHEAF, 2, 16, 9999, paper), True)
        self.assertIs(act_paper_holds(SHEAF, 4, 16, 9999, paper), False)
        self.assertIs(act_paper_holds(SHEAF, 2, 15, 9999, paper), False)
        self.assertIs(act_paper_holds(SHEAF, 2, 20, 9999, paper), False)
        self.assertIs(act_paper_holds(SHEAF, 2, 16, 9, paper), False)

    def test_true_is_no_number_and_a_list_no_tuple(self):
        sheaf = book(deed(0), act(1, "void", 0), act(2, "undone", 1), act(3, "undone", 2))
        self.assertIs(act_paper_holds(sheaf, 1, 10, 10, ("yes", 1, (("no", 2, ("yes", 3, ())),))), True)
        for thing in (("yes", True, (("no", 2, ("yes", 3, ())),)), ["yes", 1, (("no", 2, ("yes", 3, ())),)],
                      ("yes", 1, [("no", 2, ("yes", 3, ()))]), ("yes", 1, (["no", 2, ("yes", 3, ())],)),
                      ("yes", 1, (("no", 2, ["yes", 3, ()]),)), ("yes", 1, (("no", 2, ("yes", 3, [])),))):
            self.assertIs(act_paper_holds(sheaf, 1, 10, 10, thing), False)


class Whys(unittest.TestCase):
    def test_unknown_and_ahead(self):
        sheaf = book(deed(3, 20, 30))
        self.assertEqual(why_of(sheaf, 3, 20, 29), ("unknown", 3))
        self.assertEqual(why_of(sheaf, 3, 19, 30), ("ahead", 3))
        self.assertEqual(why_of(sheaf, 3, 20, 30), ("stands", 3, (), ()))

    def test_void(self):
        self.assertEqual(why_of(SHEAF, 0, 10), ("void", 0, ("yes", 2, ())))
        self.assertEqual(why_of(SHEAF, 0, 16), ("void", 0, ("yes", 2, (("no", 4, ("yes", 6, ())),))))

    def test_the_least_void_in_force_is_taken(self):
        sheaf = book(deed(0), act(1, "void", 0), act(2, "void", 0), act(3, "void", 0), act(4, "undone", 1))
        self.assertEqual(why_of(sheaf, 0, 10), ("void", 0, ("yes", 2, ())))
        self.assertIs(why_holds(sheaf, 0, 10, 10, ("void", 0, ("yes", 3, ()))), True)
        self.assertIs(why_holds(sheaf, 0, 10, 10, ("void", 0, ("yes", 1, ()))), False)
        self.assertIs(why_holds(sheaf, 0, 10, 10, ("void", 0, ("yes", 4, ()))), False)

    def test_fallen(self):
        void = ("void", 0, ("yes", 2, ()))
        self.assertEqual(why_of(SHEAF, 5, 10), ("fallen", 5, void))

    def test_the_least_rest_that_does_not_carry_is_taken(self):
        sheaf = book(deed(0), deed(1), deed(2, day=11), deed(3, rests=(1, 2)), deed(4, rests=(0, 2)),
                     act(5, "void", 1))
        self.assertEqual(why_of(sheaf, 3, 10), ("fallen", 3, ("void", 1, ("yes", 5, ()))))
        self.assertEqual(why_of(sheaf, 4, 10), ("fallen", 4, ("ahead", 2)))
        self.assertIs(why_holds(sheaf, 3, 10, 10, ("fallen", 3, ("ahead", 2))), True)
        self.assertIs(why_holds(sheaf, 4, 10, 10, ("fallen", 4, ("stands", 0, (), ()))), False)
        self.assertIs(why_holds(sheaf, 3, 11, 11, ("fallen", 3, ("ahead", 2))), False)

    def test_stands_with_nos_of_voids_and_paids_by_numbers(self):
        sheaf = book(deed(0), act(1, "paid", 0), act(2, "void", 0), act(3, "paid", 0), act(4, "undone", 3),
                     act(5, "undone", 2), act(6, "undone", 1), act(7, "void", 0, 11), act(8, "paid", 0, written=11))
        nos = (("no", 1, ("yes", 6, ())), ("no", 2, ("yes", 5, ())), ("no", 3, ("yes", 4, ())))
        self.assertEqual(why_of(sheaf, 0, 10, 10), ("stands", 0, nos, ()))
        self.assertIs(why_holds(sheaf, 0, 10, 10, ("stands", 0, (nos[1], nos[0], nos[2]), ())), False)
        self.assertIs(why_holds(sheaf, 0, 10, 10, ("stands", 0, nos[1:], ())), False)

    def test_paid_with_nos_of_voids_alone(self):
        sheaf = book(deed(0), act(1, "paid", 0), act(2, "void", 0), act(3, "paid", 0), act(4, "undone", 1),
                     act(5, "undone", 2), act(6, "paid", 0))
        nos = (("no", 2, ("yes", 5, ())),)
        self.assertEqual(why_of(sheaf, 0, 10), ("paid", 0, nos, (), ("yes", 3, ())))
        self.assertIs(why_holds(sheaf, 0, 10, 10, ("paid", 0, nos, (), ("yes", 6, ()))), True)
        self.assertIs(why_holds(sheaf, 0, 10, 10, ("paid", 0, nos, (), ("yes", 1, ()))), False)
        self.assertIs(why_holds(sheaf, 0, 10, 10, ("paid", 0, (), (), ("yes", 3, ()))), False)

    def test_whys_of_both_rests_by_numbers(self):
        nos = (("no", 2, ("yes", 3, ())),)
        below = (("stands", 0, nos, ()), ("stands", 1, (), ()))
        self.assertEqual(why_of(SHEAF, 5, 20), ("paid", 5, (), below, ("yes", 8, ())))
        self.assertIs(why_holds(SHEAF, 5, 20, 9999, ("paid", 5, (), below, ("yes", 10, ()))), True)
        self.assertIs(why_holds(SHEAF, 5, 20, 9999, ("paid", 5, (), below[::-1], ("yes", 8, ()))), False)
        self.assertEqual(why_of(book(deed(0), deed(1), deed(2, rests=(0, 1))), 2, 10),
                         ("stands", 2, (), (("stands", 0, (), ()), ("stands", 1, (), ()))))

    def test_whys_of_another_deed_or_day_do_not_hold(self):
        why = why_of(SHEAF, 0, 16)
        self.assertIs(why_holds(SHEAF, 0, 16, 9999, why), True)
        self.assertIs(why_holds(SHEAF, 1, 16, 9999, why), False)
        self.assertIs(why_holds(SHEAF, 0, 15, 9999, why), False)
        self.assertIs(why_holds(SHEAF, 0, 20, 9999, why), False)
        self.assertIs(why_holds(SHEAF, 0, 16, 9, why), False)
        self.assertIs(why_holds(SHEAF, 5, 16, 9999, why), False)

    def test_a_deed_that_is_both_void_and_fallen_is_void(self):
        sheaf = book(deed(0), deed(1, rests=(0,)), act(2, "void", 0), act(3, "void", 1))
        void = ("void", 0, ("yes", 2, ()))
        self.assertEqual(why_of(sheaf, 1, 10), ("void", 1, ("yes", 3, ())))
        self.assertIs(why_holds(sheaf, 1, 10, 10, ("fallen", 1, void)), False)

    def test_true_is_no_number_and_a_list_no_tuple(self):
        sheaf = book(deed(0), deed(1, rests=(0,)))
        below = ("stands", 0, (), ())
        self.assertIs(why_holds(sheaf, 1, 10, 10, ("stands", 1, (), (below,))), True)
        for thing in (("stands", True, (), (below,)), ("stands", 1, [], (below,)), ("stands", 1, (), [below]),
                      ["stands", 1, (), (below,)], ("stands", 1, (), (list(below),)),
                      ("stands", 1, (), (("stands", False, (), ()),))):
            self.assertIs(why_holds(sheaf, 1, 10, 10, thing), False)


class LargePapers(unittest.TestCase):
    def test_a_paper_of_very_many_parts_may_be_handed_in_again(self):
        deeds = [deed(n, rests=tuple(range(max(0, n - 2), n))) for n in range(16)]
        sheaf = book(*deeds)
        why = why_of(sheaf, 15, 10)
        self.assertGreater(repr(why).count("stands"), 2500)
        self.assertIs(why_holds(sheaf, 15, 10, 10, why), True)
        self.assertIs(why_holds(sheaf, 14, 10, 10, why), False)

    def test_a_deep_paper_may_be_handed_in_again(self):
        sheaf = book(deed(0), act(1, "void", 0), *[act(n, "undone", n - 1) for n in range(2, 16)])
        paper = act_paper(sheaf, 1, 10)
        self.assertIs(act_paper_holds(sheaf, 1, 10, 10, paper), True)
        self.assertIs(act_paper_holds(sheaf, 3, 10, 10, paper), False)
        self.assertIs(why_holds(sheaf, 0, 10, 10, ("void", 0, paper)), True)


def few(papers):
    return papers[:40]


class AgainstTheDocument(unittest.TestCase):
    def test_papers_of_acts(self):
        for seed in range(120):
            sheaf = random_book(seed, most=10, last=3)
            for n in told_acts(sheaf):
                for d, k in ((3, 3), (2, 3), (3, 2), (1, 1)):
                    self.look_at_act(sheaf, n, d, k)

    def look_at_act(self, sheaf, n, d, k):
        right = all_act_papers(sheaf, n, d, k)
        if told_open(sheaf, n, d, k):
            self.assertEqual(repr(act_paper(sheaf, n, d, k)), repr(right[0]))
            self.assertEqual(right[0][0], "yes" if told_force(sheaf, n, d, k) else "no")
        else:
            with self.assertRaises(NoAct):
                act_paper(sheaf, n, d, k)
        shown = {repr(paper) for paper in right}
        for paper in few(right):
            self.assertIs(act_paper_holds(sheaf, n, d, k, paper), True)
            for thing in twisted(paper):
                self.assertIs(act_paper_holds(sheaf, n, d, k, thing), repr(thing) in shown, thing)
        for other in told_acts(sheaf):
            for paper in few(all_act_papers(sheaf, other, 3, 3)):
                self.assertIs(act_paper_holds(sheaf, n, d, k, paper), repr(paper) in shown)

    def test_whys_of_deeds(self):
        for seed in range(120):
            sheaf = random_book(seed, most=9, last=3)
            for n in told_deeds(sheaf):
                for d, k in ((3, 3), (2, 3), (3, 2), (1, 1)):
                    self.look_at_deed(sheaf, n, d, k)

    def look_at_deed(self, sheaf, n, d, k):
        right = all_whys(sheaf, n, d, k)
        self.assertEqual(repr(why_of(sheaf, n, d, k)), repr(right[0]))
        self.assertEqual(right[0][0], told_standing(sheaf, n, d, k))
        shown = {repr(why) for why in right}
        for why in few(right):
            self.assertIs(why_holds(sheaf, n, d, k, why), True)
        for thing in twisted(right[-1]):
            self.assertIs(why_holds(sheaf, n, d, k, thing), repr(thing) in shown, thing)
        for other in told_deeds(sheaf):
            for why in few(all_whys(sheaf, other, 3, 3)):
                self.assertIs(why_holds(sheaf, n, d, k, why), repr(why) in shown)

    def test_the_order_of_entries_matters_nothing(self):
        for seed in range(60):
            sheaf = random_book(seed, most=14, last=3)
            other = shuffled(sheaf, seed + 1)
            for n in told_deeds(sheaf):
                why = why_of(sheaf, n, 3)
                self.assertEqual(why, why_of(other, n, 3))
                self.assertIs(why_holds(other, n, 3, 9999, why), True)
            for n in told_acts(sheaf):
                paper = act_paper(sheaf, n, 3)
                self.assertEqual(paper, act_paper(other, n, 3))
                self.assertIs(act_paper_holds(other, n, 3, 9999, paper), True)

    def test_things_of_whatever_kind(self):
        for thing in [*ODD_THINGS, SHEAF, 0, 1]:
            for d in (0, 10, 16, 25):
                for n in told_acts(SHEAF):
                    self.assertIs(act_paper_holds(SHEAF, n, d, 9999, thing), False)
                    self.assertIs(act_paper_holds(SHEAF, n, d, 9999, ("no", n, thing)), False)
                    self.assertIs(act_paper_holds(SHEAF, n, d, 9999, ("yes", n, (thing,))), False)
                for n in told_deeds(SHEAF):
                    self.assertIs(why_holds(SHEAF, n, d, 9999, (thing, n)), False)
                    if thing != ("stands", 0, (), ()):
                        self.assertIs(why_holds(SHEAF, n, d, 9999, thing), False)
                        self.assertIs(why_holds(SHEAF, n, d, 9999, ("void", n, thing)), False)
                        self.assertIs(why_holds(SHEAF, n, d, 9999, ("fallen", n, thing)), False)


if __name__ == "__main__":
    unittest.main()
