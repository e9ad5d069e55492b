"""Points 71, 72 and 73: whether a copy says a draft, in how many ways, how far it reaches, where they part."""

import itertools
import random
import unittest

from deedsheaf.copies import first_way, parts_at, reaches_hold, reaches_of, says, ways_many
from deedsheaf.errors import NoCopy, NoDraft, NoForms
from tests.helper import ODD_THINGS, changed_at, lines_run

TELLERS = (says, ways_many, first_way, reaches_of, parts_at, lambda *texts: reaches_hold(*texts, []))
FORMS = (
    ("a", (("of",), ("of", "of"), ("on",))),
    ("dd", (("deed",), ("deed", "of", "gift"))),
    ("wit", (("wit",), ("witness",))),
)
LETTERS = "abcdefghijklmnopqrstuvwxyz"
# Of whatever kind, but what is one of forms, drafts and copies; and what is neither these nor a word.
ODD_TEXTS = [thing for thing in ODD_THINGS if thing not in ((), ("yes",))]
ODD_PARTS = [thing for thing in ODD_TEXTS if thing not in ("deed", "yes", "stands")]
NO_WORDS = ["", "abcdefghi", "A", "aB", "a b", " a", "a ", "a1", "1", "a-b", "a\n", "`", "{", "a`", "z{", "a" * 2000,
            None, True, 0, 1, ["a"], ("a",), {"a": 1}, ["a", "b"], (), []]
WORDS = ["a", "z", "az", "abcdefgh", "zzzzzzzz"]


def told_ways(forms, draft, copy):
    """All ways, as tuples of places, found by going through all choices of fulls."""
    rows = [dict(forms).get(word, ((word,),)) for word in draft]
    ways = []
    for way in itertools.product(*[range(len(fulls)) for fulls in rows]):
        said = tuple(word for fulls, place in zip(rows, way) for word in fulls[place])
        if said == copy:
            ways.append(way)
    return ways


def told_reaches(forms, draft, copy):
    return [tuple(place for place in range(len(copy) + 1) if told_ways(forms, draft[:many], copy[:place]))
            for many in range(len(draft) + 1)]


def told_parting(forms, draft, copy):
    if told_ways(forms, draft, copy):
        return None
    pairs = [(many, place) for many, row in enumerate(told_reaches(forms, draft, copy)) for place in row]
    return max(pairs)


def random_texts(seed):
    """Forms, a draft and a copy over two letters, so that there are often many ways; often the copy says the draft."""
    chance = random.Random(seed)
    words = ["a", "b", "c"] if seed % 3 == 0 else ["a", "b"]
    fulls = [full for size in (1, 2, 3) for full in itertools.product(words[:2], repeat=size)]
    shorts = sorted(chance.sample(words, chance.randint(0, len(words))))
    forms = tuple((short, tuple(sorted(chance.sample(fulls, chance.randint(1, 3))))) for short in shorts)
    draft = tuple(chance.choice(words) for place in range(chance.randint(0, 5)))
    said = []
    for word in draft:
        said.extend(chance.choice(dict(forms).get(word, ((word,),))))
    turn = chance.randint(0, 3)
    if turn == 0 and said:
        said[chance.randrange(len(said))] = chance.choice(words)
    if turn == 1:
        said = said[:chance.randint(0, len(said))]
    if turn == 2:
        said = said + [chance.choice(words)]
    return forms, draft, tuple(said)


class Says(unittest.TestCase):
    def test_words_that_are_no_shorts_are_said_by_themselves_alone(self):
        self.assertIs(says((), ("x", "y"), ("x", "y")), True)
        self.assertIs(says((), ("x", "y"), ("y", "x")), False)
        self.assertIs(says((), ("x", "y"), ("x",)), False)
        self.assertIs(says((), ("x",), ("x", "y")), False)
        self.assertIs(says(FORMS, ("of",), ("a",)), False)

    def test_a_short_is_said_by_its_fulls_and_not_by_itself(self):
        for full in (("of",), ("of", "of"), ("on",)):
            self.assertIs(says(FORMS, ("a",), full), True)
        self.assertIs(says(FORMS, ("a",), ("a",)), False)
        self.assertIs(says(FORMS, ("wit",), ("wit",)), True)
        self.assertIs(says(FORMS, ("dd",), ("dd",)), False)

    def test_a_word_of_a_full_is_not_said_by_a_full_again(self):
        forms = (("a", (("b",),)), ("b", (("c",),)))
        self.assertIs(says(forms, ("a",), ("b",)), True)
        self.assertIs(says(forms, ("a",), ("c",)), False)

    def test_words_are_not_cut(self):
        self.assertIs(says((), ("ab", "c"), ("a", "bc")), False)
        self.assertIs(says((("x", (("a", "b"),)),), ("x",), ("ab",)), False)

    def test_nothing_says_nothing(self):
        self.assertIs(says((), (), ()), True)
        self.assertIs(says(FORMS, (), ()), True)
        self.assertIs(says(FORMS, (), ("of",)), False)
        self.assertIs(says(FORMS, ("a",), ()), False)
        self.assertEqual((ways_many((), (), ()), first_way((), (), ())), (1, ()))
        self.assertEqual((reaches_of((), (), ()), parts_at((), (), ())), ([(0,)], None))

    def test_a_greedy_choice_is_taken_back(self):
        self.assertIs(says(FORMS, ("dd", "of"), ("deed", "of", "gift", "of")), True)
        self.assertIs(says(FORMS, ("dd", "of", "gift"), ("deed", "of", "gift")), True)
        self.assertIs(says(FORMS, ("dd", "of"), ("deed", "of", "gift")), False)


class Ways(unittest.TestCase):
    def test_each_choice_is_one(self):
        self.assertEqual(ways_many(FORMS, ("a", "a"), ("of", "of", "of")), 2)
        self.assertEqual(first_way(FORMS, ("a", "a"), ("of", "of", "of")), (0, 1))
        self.assertEqual(ways_many(FORMS, ("a", "a"), ("of", "of", "of", "of")), 1)
        self.assertEqual(first_way(FORMS, ("a", "a"), ("of", "of", "of", "of")), (1, 1))

    def test_none(self):
        self.assertEqual(ways_many(FORMS, ("a", "x"), ("of", "y")), 0)
        self.assertIsNone(first_way(FORMS, ("a", "x"), ("of", "y")))

    def test_any_other_word_has_0_in_its_place(self):
        self.assertEqual(first_way(FORMS, ("x", "a", "y", "wit"), ("x", "on", "y", "witness")), (0, 2, 0, 1))

    def test_the_first_way_is_not_that_of_the_first_fulls(self):
        forms = (("a", (("b",), ("b", "b"))), ("c", (("b", "b", "b"), ("d",))))
        self.assertEqual(first_way(forms, ("a", "c", "a"), ("b", "b", "d", "b")), (1, 1, 0))

    def test_as_many_as_a_draft_may_have(self):
        forms = (("a", (("b",), ("b", "b"), ("b", "b", "b"))),)
        many = {0: 1}
        for word in range(12):
            more = {}
            for place in many:
                for size in (1, 2, 3):
                    more[place + size] = more.get(place + size, 0) + many[place]
            many = more
        self.assertEqual(ways_many(forms, ("a",) * 12, ("b",) * 24), many[24])
        self.assertEqual(many[24], 73789)
        self.assertEqual(first_way(forms, ("a",) * 12, ("b",) * 24), (0,) * 6 + (2,) * 6)
        self.assertEqual(ways_many(forms, ("a",) * 12, ("b",) * 30), many[30])
        self.assertEqual(first_way(forms, ("a",) * 12, ("b",) * 30), (0, 0, 0) + (2,) * 9)
        self.assertEqual(reaches_of(forms, ("a",) * 12, ("b",) * 30)[-1], tuple(range(12, 31)))


    def test_they_are_told_without_going_through_all(self):
        forms = (("a", (("b",), ("b", "b"), ("b", "b", "b"))),)
        for tell in TELLERS:
            self.assertLess(lines_run(tell, forms, ("a",) * 12, ("b",) * 24), 50000)


class Reaches(unittest.TestCase):
    def test_the_list(self):
        self.assertEqual(reaches_of(FORMS, ("a", "a", "x"), ("of", "of", "x")), [(0,), (1, 2), (2,), (3,)])
        self.assertEqual(reaches_of(FORMS, ("a", "a", "dd"), ("of", "of", "of")), [(0,), (1, 2), (2, 3), ()])
        self.assertEqual(reaches_of(FORMS, ("x", "y"), ("y",)), [(0,), (), ()])

    def test_the_list_itself_holds(self):
        for seed in range(100):
            texts = random_texts(seed)
            self.assertIs(reaches_hold(*texts, reaches_of(*texts)), True)

    def test_true_is_not_1_and_false_is_not_0(self):
        texts = (FORMS, ("a", "a"), ("of", "of"))
        self.assertIs(reaches_hold(*texts, [(0,), (1, 2), (2,)]), True)
        self.assertIs(reaches_hold(*texts, [(0,), (True, 2), (2,)]), False)
        self.assertIs(reaches_hold(*texts, [(False,), (1, 2), (2,)]), False)
        self.assertIs(reaches_hold((), (), (), [(False,)]), False)
        self.assertIs(reaches_hold((), (), (), [(0,)]), True)

    def test_a_tuple_is_no_list_and_a_list_no_tuple(self):
        texts = (FORMS, ("a", "a"), ("of", "of"))
        for thing in (((0,), (1, 2), (2,)), [[0], (1, 2), (2,)], [(0,), [1, 2], (2,)], [(0,), (1, 2), 2],
                      [(0,), (1, 2), {2: 2}], {0: (0,), 1: (1, 2), 2: (2,)}):
            self.assertIs(reaches_hold(*texts, thing), False)

    def test_what_is_not_the_list(self):
        texts = (FORMS, ("a", "a"), ("of", "of"))
        for thing in ([(0,), (1, 2)], [(0,), (1, 2), (2,), ()], [(0,), (2, 1), (2,)], [(0,), (1,), (2,)],
                      [(0,), (1, 2), ()], [(0,), (1, 2), (2, 3)], [(0,), (1, 2, 2), (2,)], [(0,), ("1", 2), (2,)],
                      [(0,), (1, 2), (None,)], [(0,), ((1,), 2), (2,)], [None, (1, 2), (2,)], []):
            self.assertIs(reaches_hold(*texts, thing), False)

    def test_of_whatever_kind(self):
        for texts in ((FORMS, ("a",), ("x",)), ((), (), ()), (FORMS, ("a", "a"), ("of",) * 3)):
            right = reaches_of(*texts)
            for thing in ODD_THINGS:
                self.assertIs(reaches_hold(*texts, thing), False)
                for place in range(len(right)):
                    if thing != right[place]:
                        wrong = right[:place] + [thing] + right[place + 1:]
                        self.assertIs(reaches_hold(*texts, wrong), False)


class Parting(unittest.TestCase):
    def test_none_where_the_copy_says_the_draft(self):
        self.assertIsNone(parts_at(FORMS, ("a", "a"), ("of", "of")))

    def test_at_the_first_word(self):
        self.assertEqual(parts_at(FORMS, ("x", "y"), ("y", "x")), (0, 0))
        self.assertEqual(parts_at(FORMS, ("x",), ()), (0, 0))

    def test_the_greatest_number_of_the_copys_words(self):
        self.assertEqual(parts_at(FORMS, ("a", "x"), ("of", "of", "y")), (1, 2))
        self.assertEqual(parts_at(FORMS, ("a", "x", "z"), ("of", "x", "y")), (2, 2))

    def test_more_words_of_the_draft_go_ahead_of_more_of_the_copy(self):
        forms = (("a", (("b",), ("b", "c", "d"))),)
        self.assertEqual(parts_at(forms, ("a", "c", "x"), ("b", "c", "d", "e")), (2, 2))

    def test_a_copy_that_goes_on_behind_the_draft(self):
        self.assertEqual(parts_at(FORMS, ("a",), ("of", "of", "of")), (1, 2))
        self.assertEqual(parts_at(FORMS, (), ("of",)), (0, 0))

    def test_a_copy_that_ends_within_the_draft(self):
        self.assertEqual(parts_at(FORMS, ("x", "a", "dd"), ("x", "of", "of")), (2, 3))


class AllChoices(unittest.TestCase):
    def test_against_going_through_all(self):
        said = 0
        for seed in range(1500):
            texts = random_texts(seed)
            ways = told_ways(*texts)
            said += bool(ways)
            self.assertIs(says(*texts), bool(ways))
            self.assertEqual(ways_many(*texts), len(ways))
            self.assertEqual(first_way(*texts), min(ways) if ways else None)
            self.assertEqual(reaches_of(*texts), told_reaches(*texts))
            self.assertEqual(parts_at(*texts), told_parting(*texts))
        self.assertGreater(said, 300)
        self.assertLess(said, 1200)


class Refusals(unittest.TestCase):
    def refused(self, error, *texts):
        for tell in TELLERS:
            with self.assertRaises(error, msg=texts) as caught:
                tell(*texts)
            self.assertIs(type(caught.exception), error)

    def taken(self, *texts):
        for tell in TELLERS:
            tell(*texts)

    def test_of_whatever_kind(self):
        for thing in ODD_TEXTS:
            self.refused(NoForms, thing, (), ())
            self.refused(NoDraft, (), thing, ())
            self.refused(NoCopy, (), (), thing)

    def test_the_left_one_first(self):
        for thing in ODD_TEXTS:
            self.refused(NoForms, thing, thing, thing)
            self.refused(NoForms, thing, (), thing)
            self.refused(NoForms, thing, thing, ())
            self.refused(NoDraft, (), thing, thing)

    def test_words(self):
        for word in WORDS:
            self.taken((), (word,), (word,))
            self.taken(((word, ((word,),)),), (), ())
        for thing in NO_WORDS:
            self.refused(NoDraft, (), (thing,), ())
            self.refused(NoCopy, (), (), (thing,))
            self.refused(NoDraft, (), ("a", thing, "a"), ())
            self.refused(NoCopy, (), (), ("a", thing, "a"))
            self.refused(NoForms, ((thing, (("a",),)),), (), ())
            self.refused(NoForms, (("a", ((thing,),)),), (), ())
            self.refused(NoForms, (("a", (("b", thing),)),), (), ())

    def test_the_bounds_of_drafts_and_copies(self):
        self.taken((), ("a",) * 12, ("a",) * 30)
        self.refused(NoDraft, (), ("a",) * 13, ())
        self.refused(NoCopy, (), (), ("a",) * 31)
        self.refused(NoDraft, (), ["a"], ())
        self.refused(NoCopy, (), (), ["a"])
        self.refused(NoDraft, (), "a", ())
        self.refused(NoCopy, (), (), "a")

    def test_the_bounds_of_forms(self):
        eight = tuple((letter, (("x",),)) for letter in LETTERS[:8])
        self.taken(eight, (), ())
        self.refused(NoForms, eight + (("i", (("x",),)),), (), ())
        self.refused(NoForms, list(eight), (), ())

    def test_forms_rise_by_their_shorts(self):
        one, other = ("a", (("x",),)), ("b", (("a",),))
        self.taken((one, other), (), ())
        self.refused(NoForms, (other, one), (), ())
        self.refused(NoForms, (one, one), (), ())
        self.refused(NoForms, (("a", (("x",),)), ("a", (("y",),))), (), ())
        self.taken((("a", (("x",),)), ("aa", (("x",),)), ("b", (("x",),))), (), ())
        self.refused(NoForms, (("b", (("x",),)), ("aa", (("x",),))), (), ())
        self.refused(NoForms, (one, other, ("c", (("x",),)), ("c", (("z",),))), (), ())

    def test_the_bounds_of_fulls(self):
        right = ((("x",),), (("x",), ("y",), ("z",)), (("x", "y", "z"),), (("x",), ("x", "a")), (("b", "a"), ("c",)))
        for fulls in right:
            self.taken((("a", fulls),), (), ())
        wrong = ((), (("w",), ("x",), ("y",), ("z",)), ((),), (("w", "x", "y", "z"),), (("y",), ("x",)),
                 (("x",), ("x",)), (("x", "a"), ("x",)), [("x",)], (["x"],), ("x",), "x", (("x",), ["y"]), (("x",), ()),
                 None, 0, True, {}, (("x",), None), (("x",), ("y",), ("a",)))
        for fulls in wrong:
            self.refused(NoForms, (("a", fulls),), (), ())

    def test_the_tuples_within_forms(self):
        for form in (("a",), ("a", (("x",),), ()), ["a", (("x",),)], ((("x",),), "a"), "ab", None, 7, {"a": (("x",),)}):
            self.refused(NoForms, (form,), (), ())
            self.refused(NoForms, (("a", (("x",),)), form), (), ())

    def test_of_whatever_kind_within_forms(self):
        for thing in ODD_PARTS:
            self.refused(NoForms, (thing,), (), ())
            self.refused(NoForms, ((thing, (("x",),)),), (), ())
            self.refused(NoForms, (("a", thing),), (), ())
            self.refused(NoForms, (("a", (thing,)),), (), ())
            self.refused(NoForms, (("a", ((thing,),)),), (), ())
            self.refused(NoForms, changed_at(FORMS, 1, thing), (), ())

    def test_a_word_in_the_wrong_place_is_none_of_them(self):
        for word in WORDS:
            self.refused(NoForms, (word,), (), ())
            self.refused(NoForms, (("a", word),), (), ())
            self.refused(NoForms, (("a", (word,)),), (), ())


if __name__ == "__main__":
    unittest.main()
