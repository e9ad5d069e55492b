"""Points 5, 6, 7 and 42 over all functions: arguments, refusals, nothing changed, entries that do not matter yet."""

import copy
import inspect
import itertools
import unittest

from deedsheaf.books import acts_of, deeds_of, is_book, is_entry, is_folk
from deedsheaf.copies import first_way, parts_at, reaches_hold, reaches_of, says, ways_many
from deedsheaf.courses import course_of, last_stand, learned_of
from deedsheaf.desk import Desk
from deedsheaf.errors import (Missing, Named, NoAct, NoAge, NoCopy, NoDay, NoDeed, NoDraft, NoEntry, NoFolk, NoForms,
                              NoRow, NoSize, NoText, NothingDone, NoWords, Twice)
from deedsheaf.folk import could_witness, faults_of, often_hands, turns_of
from deedsheaf.late import late_of, parting_of, with_entry, without_entry
from deedsheaf.lost import (clash_holds, first_clash, first_order, open_pages, order_fits, orders_many,
                            settled_pages)
from deedsheaf.reasons import act_paper, act_paper_holds, why_holds, why_of
from deedsheaf.scribe import Scribe
from deedsheaf.standing import all_standing, in_force, standing_of
from deedsheaf.texts import book_read, book_text
from tests.helper import (FOLK, NO_DAYS, ODD_THINGS, act, book, deed, random_book, rising, shuffled, told_acts,
                          told_deeds, told_text)

# A deed of number 0 and an act of number 1, so that False and True would be taken for them by ==.
SHEAF = book(deed(0, witnesses=(2, 4)), act(1, "void", 0, hand=1), act(2, "undone", 1, 20), deed(3, rests=(0,)))
RIGHT = {
    "book": SHEAF, "act": 1, "deed": 0, "d": 15, "k": 15, "thing": ("yes", 1, ()), "folk": FOLK,
    "entry": act(4, "void", 3, 10, 12), "number": 3, "other": book(deed(0, 11)),
    "forms": (("a", (("x",), ("x", "y"))),), "draft": ("a", "y"), "copy": ("x", "y"),
    "size": 3, "words": (("not", 0, 0), ("ahead", 1, 2)), "text": told_text(SHEAF),
}
REFUSED = {
    "act": NoAct, "deed": NoDeed, "d": NoDay, "k": NoDay, "entry": NoEntry, "number": Missing,
    "forms": NoForms, "draft": NoDraft, "copy": NoCopy, "size": NoSize, "words": NoWords, "text": NoText,
}
TEXTS = ("forms", "draft", "copy")
LOST = ("size", "words")
INTERFACE = {
    is_folk: ("thing",), is_entry: ("folk", "thing"), is_book: ("thing",), deeds_of: ("book",), acts_of: ("book",),
    in_force: ("book", "act", "d", "k"), standing_of: ("book", "deed", "d", "k"), all_standing: ("book", "d", "k"),
    act_paper: ("book", "act", "d", "k"), why_of: ("book", "deed", "d", "k"),
    act_paper_holds: ("book", "act", "d", "k", "thing"), why_holds: ("book", "deed", "d", "k", "thing"),
    course_of: ("book", "deed", "k"), learned_of: ("book", "deed", "d"), last_stand: ("book", "deed", "k"),
    with_entry: ("book", "entry"), without_entry: ("book", "number"), parting_of: ("book", "other", "k"),
    late_of: ("book", "entry", "k"), faults_of: ("book",), could_witness: ("book", "d"), turns_of: ("book",),
    often_hands: ("book",), says: TEXTS, ways_many: TEXTS, first_way: TEXTS, reaches_of: TEXTS,
    reaches_hold: (*TEXTS, "thing"), parts_at: TEXTS, orders_many: LOST, first_order: LOST, open_pages: LOST,
    settled_pages: LOST, order_fits: (*LOST, "thing"), first_clash: LOST, clash_holds: (*LOST, "thing"),
    book_text: ("book",), book_read: ("text",),
}
METHODS = {
    Scribe: {"__init__": ("folk", "age"), "write": ("entry",), "tear": ("number",), "undo": (), "book": (),
             "standing": ("deed", "d", "k"), "twin": (), "__len__": (), "__eq__": ("other",), "__repr__": (),
             "__str__": ()},
    Desk: {"__init__": (), "say": ("row",)},
}
K_LEFT_OUT = (in_force, standing_of, all_standing, act_paper, why_of, course_of, last_stand, parting_of, late_of)
LISTS = (deeds_of, acts_of, course_of, learned_of, parting_of, late_of, faults_of, could_witness, turns_of,
         often_hands, reaches_of, open_pages)
NO_TEXTS = [thing for thing in ODD_THINGS if thing not in ((), ("yes",))]
WRONG = {
    "act": [*ODD_THINGS, 0, 3, 4, 30, 31],
    "deed": [*ODD_THINGS, 1, 2, 4, 30, 31],
    "d": NO_DAYS,
    "k": NO_DAYS,
    "entry": ODD_THINGS,
    "number": [*ODD_THINGS, 4, 30, 31],
    "forms": NO_TEXTS,
    "draft": NO_TEXTS,
    "copy": NO_TEXTS,
    "size": [*ODD_THINGS, 0, 8],
    "words": [thing for thing in ODD_THINGS if thing != ()],
    "text": [*ODD_THINGS, told_text(SHEAF) + " "],
}


class Refusals(unittest.TestCase):
    def test_each_wrong_argument_alone(self):
        for tell, names in INTERFACE.items():
            for name in names:
                for thing in WRONG.get(name, []):
                    asked = {**{other: RIGHT[other] for other in names}, name: thing}
                    with self.assertRaises(REFUSED[name], msg=(tell, name)) as caught:
                        tell(**asked)
                    self.assertIs(type(caught.exception), REFUSED[name])

    def test_of_several_wrong_arguments_the_left_one_is_refused(self):
        some = {"act": (True, [1], 0), "deed": (False, {}, 1), "d": (True, -1, [5]), "k": (None, 10000, {}),
                "entry": (None, [], deed(31)), "forms": (None, [], ("a",)), "draft": ("a", [], (1,)),
                "copy": ({}, ["a"], (None,)), "size": (True, 8, [3]), "words": (None, [], (("at", 0),))}
        for tell, names in INTERFACE.items():
            checked = [name for name in names if name in some]
            for many in range(2, len(checked) + 1):
                for wrong in itertools.combinations(checked, many):
                    for things in itertools.product(*[some[name] for name in wrong]):
                        asked = {name: RIGHT[name] for name in names}
                        asked.update(zip(wrong, things))
                        with self.assertRaises(REFUSED[wrong[0]], msg=(tell, wrong)):
                            tell(*[asked[name] for name in names])

    def test_a_wrong_thing_behind_wrong_arguments_matters_nothing(self):
        for thing in ODD_THINGS:
            with self.assertRaises(NoDay):
                act_paper_holds(SHEAF, 1, 15, thing, thing)
            with self.assertRaises(NoDeed):
                why_holds(SHEAF, thing, thing, thing, thing)

    def test_whether_an_act_is_open_is_asked_behind_the_days(self):
        late = book(deed(0), act(1, "void", 0, 20, 20))
        with self.assertRaises(NoAct):
            act_paper(late, 1, 19)
        with self.assertRaises(NoDay):
            act_paper(late, 1, 19, -1)
        with self.assertRaises(NoDay):
            act_paper(late, 1, True, 19)

    def test_the_outermost_days_are_days(self):
        for d, k in itertools.product((0, 9999), repeat=2):
            for tell in (in_force, act_paper_holds):
                more = (RIGHT["thing"],) if tell == act_paper_holds else ()
                self.assertIsInstance(tell(SHEAF, 1, d, k, *more), bool)
            self.assertIs(type(standing_of(SHEAF, 0, d, k)), str)
            self.assertEqual(sorted(all_standing(SHEAF, d, k)), [0, 3])
            self.assertEqual(why_of(SHEAF, 0, d, k)[1], 0)
            self.assertEqual(course_of(SHEAF, 0, k)[0][0], 0)
            self.assertEqual(learned_of(SHEAF, 0, d)[0], (0, "unknown"))
            self.assertEqual(could_witness((FOLK, 0, ()), d), [0, 1, 3] if d == 0 else [0, 3])
            self.assertEqual(parting_of(SHEAF, SHEAF, k), [])

    def test_an_empty_book_has_neither_deeds_nor_acts(self):
        for number in range(31):
            with self.assertRaises(NoDeed):
                standing_of(book(), number, 5)
            with self.assertRaises(NoAct):
                in_force(book(), number, 5)

    def test_what_this_program_told_is_no_day_either(self):
        told = [why_of(SHEAF, 3, 15), act_paper(SHEAF, 1, 15), all_standing(SHEAF, 15), deeds_of(SHEAF),
                course_of(SHEAF, 0), turns_of(SHEAF), reaches_of(*[RIGHT[name] for name in TEXTS]),
                open_pages(3, ()), settled_pages(3, ()), first_order(3, ()), repr(Scribe(FOLK, 14))]
        for thing in told:
            for tell, names in INTERFACE.items():
                for name in [name for name in names if name in REFUSED]:
                    with self.assertRaises(REFUSED[name]):
                        tell(**{**{other: RIGHT[other] for other in names}, name: thing})
            self.assertEqual((is_folk(thing), is_entry(FOLK, thing), is_book(thing)), (False, False, False))


class Arguments(unittest.TestCase):
    def test_the_names_of_the_interface(self):
        for tell, names in INTERFACE.items():
            told = inspect.signature(tell).parameters
            self.assertEqual(tuple(told), names)
            for name in names:
                left_out = 9999 if name == "k" and tell in K_LEFT_OUT else inspect.Parameter.empty
                self.assertEqual(told[name].default, left_out)

    def test_the_methods_of_the_interface(self):
        for made, methods in METHODS.items():
            for word, names in methods.items():
                self.assertIn(word, vars(made))
                told = inspect.signature(vars(made)[word]).parameters
                self.assertEqual(tuple(told)[1:], names)
                for name in names:
                    self.assertEqual(told[name].default, 9999 if name == "k" else inspect.Parameter.empty)

    def test_the_methods_by_names_and_by_places(self):
        one, other = Scribe(FOLK, 14), Scribe(age=14, folk=FOLK)
        for entry in (*rising(SHEAF)[2], RIGHT["entry"]):
            one.write(entry)
            other.write(entry=entry)
        one.tear(4)
        other.tear(number=4)
        self.assertEqual((one.book(), other.book()), (rising(SHEAF), rising(SHEAF)))
        for d, k in ((15, 15), (20, 20), (20, 9999), (15, 9)):
            self.assertEqual(one.standing(0, d, k), other.standing(k=k, d=d, deed=0))
            self.assertEqual(one.standing(0, d, k), standing_of(SHEAF, 0, d, k))
            self.assertEqual(one.standing(0, d), other.standing(d=d, deed=0))
        self.assertEqual(Desk().say("book"), Desk().say(row="book"))

    def test_by_names_in_whatever_order(self):
        for tell, names in INTERFACE.items():
            by_places = tell(*[RIGHT[name] for name in names])
            for order in itertools.permutations(names):
                self.assertEqual(tell(**{name: RIGHT[name] for name in order}), by_places)

    def test_k_left_out_is_the_last_day(self):
        late = book(deed(0, 5, 9999), act(1, "void", 0, 5, 9999))
        right = {**RIGHT, "book": late, "d": 5, "other": book(), "entry": act(2, "paid", 0, 5, 9999)}
        for tell in K_LEFT_OUT:
            asked = {name: right[name] for name in INTERFACE[tell] if name != "k"}
            self.assertEqual(tell(**asked), tell(**asked, k=9999))
            self.assertEqual(tell(*asked.values()), tell(*asked.values(), 9999))
        self.assertIs(in_force(late, 1, 5), True)
        self.assertIs(in_force(late, 1, 5, 9998), False)
        self.assertEqual(standing_of(late, 0, 5), "void")
        self.assertEqual(standing_of(late, 0, 5, 9998), "unknown")
        self.assertEqual(course_of(late, 0), [(0, "ahead"), (5, "void")])
        self.assertEqual(course_of(late, 0, 9998), [(0, "unknown")])
        stood = book(deed(0, 5, 9999))
        self.assertEqual((last_stand(stood, 0), last_stand(stood, 0, 9998)), (9999, None))
        self.assertEqual(parting_of(stood, late), [(0, 5, "stands", "void")])
        self.assertEqual(parting_of(stood, late, 9998), [])
        self.assertEqual(late_of(stood, act(1, "paid", 0, 6, 9999)), [(0, 6, "stands", "paid")])
        self.assertEqual(late_of(stood, act(1, "paid", 0, 6, 9999), 9998), [])


class NothingChanged(unittest.TestCase):
    def test_what_is_handed_in_stays_as_it_is(self):
        things = [*ODD_THINGS, SHEAF]
        kept = copy.deepcopy(things)
        for thing in things:
            for tell, names in INTERFACE.items():
                if "thing" in names:
                    tell(**{**{name: RIGHT[name] for name in names}, "thing": thing})
                for name in [name for name in names if name in REFUSED]:
                    try:
                        tell(**{**{other: RIGHT[other] for other in names}, name: thing})
                    except ValueError:
                        pass
        self.assertEqual(repr(things), repr(kept))

    def test_the_same_asked_again_has_the_same_answer(self):
        for tell, names in INTERFACE.items():
            asked = {name: RIGHT[name] for name in names}
            first = repr(tell(**asked))
            with self.assertRaises(NoDeed):
                standing_of(SHEAF, 1, 15)
            self.assertEqual(repr(tell(**asked)), first)
        self.assertIs(is_book(SHEAF), True)

    def test_a_told_dict_is_the_askers_own(self):
        told = all_standing(SHEAF, 15)
        told[0] = "stands"
        told[99] = "paid"
        del told[3]
        self.assertEqual(all_standing(SHEAF, 15), {0: "void", 3: "fallen"})
        self.assertEqual(standing_of(SHEAF, 0, 15), "void")

    def test_a_told_list_is_the_askers_own(self):
        for tell in LISTS:
            asked = {name: RIGHT[name] for name in INTERFACE[tell]}
            told = tell(**asked)
            self.assertIs(type(told), list)
            self.assertNotEqual(told, [], tell)
            kept = list(told)
            told.append(kept[0])
            told[0] = None
            self.assertEqual(tell(**asked), kept)
            told.clear()
            self.assertEqual(tell(**asked), kept)

    def test_open_pages_that_were_changed_are_told_again(self):
        told = open_pages(3, (("at", 0, 0), ("not", 0, 0)))
        told[0] = told[1] = (7,)
        told.append(())
        self.assertEqual(open_pages(3, (("at", 0, 0), ("not", 0, 0))), [(), (), ()])
        self.assertEqual(settled_pages(3, (("at", 0, 0), ("not", 0, 0))), (None, None, None))

    def test_objects_are_changed_by_their_own_deeds_alone(self):
        scribe, desk = Scribe(FOLK, 14), Desk()
        scribe.write(deed(0))
        kept = scribe.book()
        told = [str(scribe), repr(scribe), len(scribe), desk.say("book")]
        for tell, names in INTERFACE.items():
            tell(**{**{name: RIGHT[name] for name in names}, **({"book": kept} if names == ("book",) else {})})
        with_entry(kept, deed(1))
        without_entry(kept, 0)
        Scribe(FOLK, 14).write(deed(5))
        Desk().say("folk 3 0:- 0:-")
        self.assertEqual([str(scribe), repr(scribe), len(scribe), desk.say("book")], told)
        self.assertEqual(scribe.book(), kept)

    def test_objects_that_refused_are_as_they_were(self):
        scribe, desk = Scribe(FOLK, 14), Desk()
        things = copy.deepcopy(ODD_THINGS)
        for thing in things:
            for error, tell in ((NoEntry, scribe.write), (Missing, scribe.tear), (NoRow, desk.say)):
                with self.assertRaises(error):
                    tell(thing)
            with self.assertRaises(NoFolk):
                Scribe(thing, thing)
            with self.assertRaises(NoAge):
                Scribe(FOLK, thing)
        self.assertEqual(repr(things), repr(ODD_THINGS))
        self.assertEqual((scribe.book(), desk.say("book")), ((FOLK, 14, ()), "folk 0:- ; age 0"))
        for undo in (scribe.undo, lambda: desk.say("undo")):
            with self.assertRaises(NothingDone):
                undo()

    def test_told_reaches_that_were_changed_hold_no_more(self):
        asked = {name: RIGHT[name] for name in TEXTS}
        told = reaches_of(**asked)
        self.assertIs(reaches_hold(**asked, thing=told), True)
        told[0] = ()
        self.assertIs(reaches_hold(**asked, thing=told), False)
        self.assertIs(reaches_hold(**asked, thing=reaches_of(**asked)), True)

    def test_a_book_stays_as_it_is_when_refused_and_when_not(self):
        kept = repr(SHEAF)
        for error, tell, more in ((Twice, with_entry, deed(3)), (Named, without_entry, 0), (Missing, without_entry, 9)):
            with self.assertRaises(error):
                tell(SHEAF, more)
        self.assertEqual(without_entry(with_entry(SHEAF, RIGHT["entry"]), 4), SHEAF)
        self.assertEqual(repr(SHEAF), kept)

    def test_a_list_within_a_thing_changed_later_changes_nothing(self):
        rows = []
        thing = ("yes", 1, rows)
        self.assertIs(act_paper_holds(SHEAF, 1, 15, 15, thing), False)
        rows.append(("no", 2, ()))
        self.assertIs(act_paper_holds(SHEAF, 1, 15, 15, thing), False)
        self.assertIs(act_paper_holds(SHEAF, 1, 15, 15, ("yes", 1, ())), True)


def all_told(sheaf, deeds, acts, d, k):
    """All that is told of these deeds and acts."""
    told = [(n, standing_of(sheaf, n, d, k), why_of(sheaf, n, d, k)) for n in deeds]
    told.extend(all_standing(sheaf, d, k)[n] for n in deeds)
    for n in acts:
        told.append((n, in_force(sheaf, n, d, k)))
        try:
            told.append(act_paper(sheaf, n, d, k))
        except NoAct:
            told.append(None)
    return told


class EntriesThatDoNotMatterYet(unittest.TestCase):
    def test_ahead_of_its_day_and_its_writing_all_is_as_without_an_entry(self):
        looked = 0
        for seed in range(120):
            sheaf = random_book(seed, most=10, last=4)
            for entry in sheaf[2]:
                less = (sheaf[0], sheaf[1], tuple(other for other in sheaf[2] if other != entry))
                if is_book(less):
                    looked += 1
                    self.look_without(sheaf, less, entry)
        self.assertGreater(looked, 200)

    def look_without(self, sheaf, less, entry):
        deeds, acts = told_deeds(less), told_acts(less)
        for d, k in itertools.product(range(6), repeat=2):
            if d < entry[1] or k < entry[2]:
                self.assertEqual(all_told(sheaf, deeds, acts, d, k), all_told(less, deeds, acts, d, k))

    def test_an_entry_matters_from_its_day_and_its_writing_on(self):
        less = book(deed(0))
        more = book(deed(0), act(1, "void", 0, 20, 30))
        for d, k in ((19, 9999), (9999, 29), (19, 30), (20, 29)):
            self.assertEqual(all_standing(more, d, k), all_standing(less, d, k))
        self.assertNotEqual(all_standing(more, 20, 30), all_standing(less, 20, 30))

    def test_the_order_of_entries_matters_nothing(self):
        for seed in range(40):
            sheaf = random_book(seed, most=12, last=4)
            deeds, acts = told_deeds(sheaf), told_acts(sheaf)
            for d, k in itertools.product((0, 2, 4), repeat=2):
                told = all_told(sheaf, deeds, acts, d, k)
                self.assertEqual(all_told(shuffled(sheaf, d), deeds, acts, d, k), told)
            for tell, names in INTERFACE.items():
                if names == ("book",) and tell != is_book:
                    self.assertEqual(tell(shuffled(sheaf, 7)), tell(sheaf))


if __name__ == "__main__":
    unittest.main()
