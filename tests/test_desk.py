"""Point 102: a desk."""

import random
import re
import unittest

from deedsheaf.courses import course_of, learned_of
from deedsheaf.desk import Desk
from deedsheaf.errors import (Missing, Named, NoAct, NoAge, NoDay, NoDeed, NoEntry, NoFolk, NoName, NoRow,
                              NothingDone, SheafError, TooMany, Twice)
from deedsheaf.folk import faults_of, turns_of
from deedsheaf.reasons import why_of
from deedsheaf.scribe import Scribe
from deedsheaf.standing import in_force, standing_of
from tests.helper import (ODD_THINGS, dressed, random_entry, rich_book, text_changed, told_acts, told_deeds,
                          told_entry_text, told_text)

FIRST = "folk 0:- ; age 0"
# The rows that make the desk's book; its text is that of the entries by their numbers.
MAKING = (
    "folk 14 -50:- 0:9999 10:80 -9999:- 20:21",
    "write 3 100 100 0 deed 0 1 - 2,4",
    "write 1 5 9 2 deed 1 0 - 2,3",
    "write 4 110 120 0 deed 2 1 1,3 -",
    "write 5 130 140 1 void 3",
    "write 8 150 150 1 undone 5",
    "write 6 160 170 0 paid 1",
)
MADE = ("folk -50:- 0:9999 10:80 -9999:- 20:21 ; age 14 ; 1 5 9 2 deed 1 0 - 2,3 ; 3 100 100 0 deed 0 1 - 2,4 ; "
        "4 110 120 0 deed 2 1 1,3 - ; 5 130 140 1 void 3 ; 6 160 170 0 paid 1 ; 8 150 150 1 undone 5")
FORTY = "9" * 40
ONE_MORE = "1" + "0" * 40
NUMBER = r"(?:0|-?[1-9][0-9]{0,39})"
LIST = rf"(?:-|{NUMBER}(?:,{NUMBER})*)"
ENTRY = (rf"{NUMBER} {NUMBER} {NUMBER} {NUMBER} "
         rf"(?:deed {NUMBER} {NUMBER} {LIST} {LIST}|(?:paid|void|undone) {NUMBER})")
ROW = re.compile(rf"folk {NUMBER}(?: {NUMBER}:(?:-|{NUMBER}))+|write {ENTRY}|tear {NUMBER}|undo|book|faults|hands|"
                 rf"(?:is|force|why) {NUMBER} {NUMBER} {NUMBER}|(?:course|learned) {NUMBER} {NUMBER}")
RIGHT_ROWS = (*MAKING, "tear 6", "undo", "book", "is 3 140 9999", "force 5 140 9999", "why 4 140 9999",
              "course 3 9999", "learned 3 140", "faults", "hands")


def made_desk():
    desk = Desk()
    for row in MAKING:
        desk.say(row)
    return desk


class Asking(unittest.TestCase):
    def refused(self, error, desk, row):
        with self.assertRaises(error, msg=row) as caught:
            desk.say(row)
        self.assertIs(type(caught.exception), error, row)
        return caught.exception

    def answers(self, desk, rows):
        for row, wanted in rows:
            told = desk.say(row)
            self.assertEqual((row, told), (row, wanted))
            self.assertIs(type(told), str)


class Deeds(Asking):
    def test_at_first(self):
        desk = Desk()
        self.answers(desk, [("book", FIRST), ("faults", "none"), ("hands", "none")])
        self.refused(NothingDone, desk, "undo")
        self.refused(NoEntry, desk, "write 0 0 0 0 deed 0 1 - -")

    def test_each_deed_is_answered_with_ok(self):
        self.answers(Desk(), [*[(row, "ok") for row in MAKING], ("book", MADE), ("tear 6", "ok"), ("undo", "ok"),
                              ("book", MADE), ("undo", "ok"), ("book", MADE.replace(" ; 6 160 170 0 paid 1", ""))])

    def test_folk(self):
        desk = Desk()
        self.answers(desk, [("folk 0 0:-", "ok"), ("book", FIRST), ("folk 9999 -9999:-9998 9999:-", "ok"),
                            ("book", "folk -9999:-9998 9999:- ; age 9999"), ("folk 3 -5:-3 -5:0 0:7", "ok"),
                            ("book", "folk -5:-3 -5:0 0:7 ; age 3")])

    def test_folk_anew_has_nothing_to_undo(self):
        desk = made_desk()
        self.answers(desk, [("folk 1 0:-", "ok"), ("book", "folk 0:- ; age 1"), ("hands", "none")])
        self.refused(NothingDone, desk, "undo")
        self.answers(desk, [(row, "ok") for row in MAKING])
        self.answers(desk, [("book", MADE)])

    def test_undo_goes_down_to_the_folk(self):
        desk = made_desk()
        self.answers(desk, [("undo", "ok")] * 6 + [("book", "folk -50:- 0:9999 10:80 -9999:- 20:21 ; age 14")])
        self.refused(NothingDone, desk, "undo")

    def test_two_desks(self):
        one, other = made_desk(), Desk()
        self.answers(other, [("book", FIRST), ("folk 2 5:- 6:-", "ok"), ("write 0 1 2 3 deed 0 1 - -", "ok")])
        self.answers(one, [("book", MADE), ("tear 8", "ok"), ("undo", "ok"), ("undo", "ok")])
        self.answers(other, [("book", "folk 5:- 6:- ; age 2 ; 0 1 2 3 deed 0 1 - -"), ("undo", "ok")])
        self.refused(NothingDone, other, "undo")
        self.answers(one, [("write 6 160 170 0 paid 1", "ok"), ("book", MADE)])
        self.answers(Desk(), [("book", FIRST)])


class Answers(Asking):
    def test_is(self):
        self.answers(made_desk(), [
            ("is 3 99 9999", "ahead"), ("is 3 100 9999", "stands"), ("is 3 130 9999", "void"),
            ("is 3 130 139", "stands"), ("is 3 150 9999", "stands"), ("is 3 150 99", "unknown"),
            ("is 4 130 9999", "fallen"), ("is 1 160 9999", "paid"), ("is 1 160 169", "stands"),
            ("is 1 0 0", "unknown")])

    def test_force(self):
        self.answers(made_desk(), [("force 5 130 9999", "yes"), ("force 5 129 9999", "no"), ("force 5 130 139", "no"),
                                   ("force 5 150 9999", "no"), ("force 8 150 150", "yes"),
                                   ("force 6 9999 9999", "yes")])

    def test_why(self):
        self.answers(made_desk(), [
            ("why 3 99 9999", "ahead 3"), ("why 3 99 99", "unknown 3"), ("why 3 100 9999", "stands 3"),
            ("why 3 130 9999", "void 3 5"), ("why 4 130 9999", "fallen 4 3"), ("why 1 160 9999", "paid 1 6"),
            ("why 4 160 9999", "stands 4"), ("why 3 150 9999", "stands 3")])

    def test_why_names_the_least(self):
        desk = Desk()
        self.answers(desk, [(row, "ok") for row in (
            "folk 0 0:- 0:-", "write 0 1 1 0 deed 0 1 - -", "write 1 1 1 0 deed 0 1 - -",
            "write 2 1 1 0 deed 0 1 0,1 -",
            "write 9 2 2 0 void 1", "write 8 2 2 0 void 0", "write 7 3 3 0 void 0", "write 12 1 1 0 paid 2",
            "write 11 1 1 0 paid 2", "write 20 5 5 0 undone 7", "write 21 5 5 0 undone 8")])
        self.answers(desk, [("why 2 1 9", "paid 2 11"), ("why 2 2 9", "fallen 2 0"), ("why 0 2 9", "void 0 8"),
                            ("why 0 3 9", "void 0 7"), ("why 2 5 9", "fallen 2 1"), ("why 1 5 9", "void 1 9")])

    def test_course_and_learned(self):
        self.answers(made_desk(), [
            ("course 3 9999", "0:ahead 100:stands 130:void 150:stands"), ("course 3 99", "0:unknown"),
            ("course 3 149", "0:ahead 100:stands 130:void"), ("course 1 9999", "0:ahead 5:stands 160:paid"),
            ("learned 3 140", "0:unknown 100:stands 140:void"), ("learned 4 130", "0:unknown 120:stands 140:fallen"),
            ("learned 3 99", "0:unknown 100:ahead")])

    def test_faults(self):
        desk = made_desk()
        self.answers(desk, [("faults", "1:2:unborn 3:2:dead 3:4:dead"), ("undo", "ok")])
        self.answers(desk, [("folk 20 0:- 0:- 5:-", "ok"), ("write 7 24 0 0 deed 0 1 - 2", "ok"),
                            ("faults", "7:2:young"), ("write 5 25 0 0 deed 0 1 - 2", "ok"), ("faults", "7:2:young"),
                            ("tear 7", "ok"), ("faults", "none"), ("undo", "ok"), ("faults", "7:2:young")])

    def test_hands(self):
        desk = made_desk()
        self.answers(desk, [("hands", "2:1:1 0:3:4 1:5:8 0:6:6"), ("tear 6", "ok"), ("hands", "2:1:1 0:3:4 1:5:8"),
                            ("undo", "ok"), ("hands", "2:1:1 0:3:4 1:5:8 0:6:6"), ("folk 0 0:-", "ok"),
                            ("hands", "none")])

    def test_a_book_that_was_torn_or_written_to_is_told_as_it_is_then(self):
        desk = made_desk()
        self.answers(desk, [("is 3 140 9999", "void"), ("tear 8", "ok"), ("is 3 150 9999", "void"), ("tear 5", "ok"),
                            ("is 3 140 9999", "stands"), ("course 3 9999", "0:ahead 100:stands"), ("undo", "ok"),
                            ("why 3 140 9999", "void 3 5"), ("undo", "ok"), ("why 3 150 9999", "stands 3"),
                            ("write 9 155 155 3 undone 8", "ok"), ("force 5 155 9999", "yes"),
                            ("why 3 155 9999", "void 3 5"),
                            ("learned 3 155", "0:unknown 100:stands 140:void 150:stands 155:void")])

    def test_the_same_asked_again(self):
        desk = made_desk()
        for row in RIGHT_ROWS[len(MAKING) + 2:]:
            first = desk.say(row)
            self.refused(NoRow, desk, row + " ")
            self.assertEqual(desk.say(row), first)
            self.assertEqual(desk.say(row=row), first)
        self.assertEqual(desk.say("book"), MADE)


class NoRows(Asking):
    def none(self, row):
        """The row is refused by a new desk and by one with a book, and turns nothing."""
        self.refused(NoRow, Desk(), row)
        desk = made_desk()
        self.refused(NoRow, desk, row)
        self.assertEqual(desk.say("book"), MADE)

    def test_of_whatever_kind(self):
        for thing in ODD_THINGS:
            self.none(thing)
        for row in RIGHT_ROWS:
            for thing in ([row], (row,), {row: row}, row.split(" "), tuple(row.split(" ")), [*row]):
                self.none(thing)

    def test_a_sign_or_a_blank_more(self):
        for row in RIGHT_ROWS:
            for other in (row + " ", " " + row, row + "\n", "\n" + row, row + "\t", row.upper(), row.title(),
                          row.replace(" ", "  "), row.replace(" ", "\t"), row + ";", row + "x", "x" + row, row + "\r",
                          row + " ; book", row + "\nbook"):
                if other != row:
                    self.none(other)

    def test_a_word_more_less_or_otherwise(self):
        for row in RIGHT_ROWS:
            words = row.split(" ")
            for place in range(len(words)):
                wrong = [words[:place] + words[place + 1:], words[:place] + ["x"] + words[place + 1:],
                         words[:place] + ["7"] + words[place:], words[:place] + [""] + words[place + 1:],
                         words[:place] + [words[place], words[place]] + words[place + 1:]]
                for other in (" ".join(some) for some in wrong):
                    if not ROW.fullmatch(other):
                        self.none(other)

    def test_words_without_numbers(self):
        for word in ("folk", "write", "tear", "is", "force", "why", "course", "learned"):
            self.none(word)
            self.none(word + " ")
        for row in ("undo 1", "book 1", "faults 0", "hands 0", "tear 1 2", "is 1 2", "is 1 2 3 4", "course 1",
                    "course 1 2 3", "learned 1", "learned 1 2 3", "force 1 2", "why 1 2 3 4", "folk 0", "folk 0:-",
                    "folk 0:- 0", "age 0", "k", "none", "ok", "", " ", "\n", "twin", "len", "with_entry", "0", "-"):
            self.none(row)

    def test_numbers_written_otherwise(self):
        for number in ("00", "05", "-0", "-05", "+5", "--5", "-", "5-", "5.0", "5e0", "0x5", "1_0", "five", "",
                       "\u0665", "\u00b2", "5,", ",5", "None", "True"):
            for row in (f"tear {number}", f"is {number} 5 5", f"is 3 {number} 5", f"is 3 5 {number}",
                        f"force 5 5 {number}", f"why 3 {number} 5", f"course {number} 5", f"learned 3 {number}",
                        f"folk {number} 0:-", f"folk 0 {number}:-", f"write {number} 0 0 0 deed 0 1 - -",
                        f"write 9 {number} 0 0 deed 0 1 - -", f"write 9 0 0 {number} deed 0 1 - -",
                        f"write 9 0 0 0 deed {number} 1 - -", f"write 9 0 0 0 void {number}"):
                self.none(row)
            if number != "-":
                self.none(f"folk 0 0:{number}")
                self.none(f"write 9 0 0 0 deed 0 1 {number} -")
                self.none(f"write 9 0 0 0 deed 0 1 - 2,{number}")

    def test_forty_figures_and_forty_one(self):
        desk = made_desk()
        for sign in ("", "-"):
            rows = ((Missing, "tear {}"), (NoDeed, "is {} 5 5"), (NoDay, "is 3 {} 5"), (NoDay, "is 3 5 {}"),
                    (NoAct, "force {} 5 5"), (NoDeed, "why {} 5 5"), (NoDay, "why 3 5 {}"), (NoDeed, "course {} 5"),
                    (NoDay, "course 3 {}"), (NoDeed, "learned {} 5"), (NoDay, "learned 3 {}"), (NoAge, "folk {} 0:-"),
                    (NoFolk, "folk 0 {}:-"), (NoFolk, "folk 0 0:- 0:{}"), (NoEntry, "write {} 0 0 0 deed 0 1 - -"),
                    (NoEntry, "write 9 {} 0 0 deed 0 1 - -"), (NoEntry, "write 9 0 {} 0 deed 0 1 - -"),
                    (NoEntry, "write 9 0 0 {} deed 0 1 - -"), (NoEntry, "write 9 0 0 0 deed {} 1 - -"),
                    (NoEntry, "write 9 0 0 0 deed 0 {} - -"), (NoEntry, "write 9 0 0 0 deed 0 1 {} -"),
                    (NoEntry, "write 9 0 0 0 deed 0 1 1,{} -"), (NoEntry, "write 9 0 0 0 deed 0 1 - {}"),
                    (NoEntry, "write 9 0 0 0 deed 0 1 - 2,{}"), (NoEntry, "write 9 0 0 0 void {}"))
            for error, row in rows:
                self.refused(error, desk, row.format(sign + FORTY))
                self.refused(NoRow, desk, row.format(sign + ONE_MORE))
                self.refused(NoRow, desk, row.format(sign + "0" + FORTY[1:]))
        self.assertEqual(desk.say("book"), MADE)

    def test_persons_written_otherwise(self):
        for person in ("0", ":", "0:", ":0", "-:0", "-:-", "0:--", "0:5:6", "0;5", "0:5,", "(0,5)", "0:None", "0:05"):
            self.none(f"folk 0 {person}")
            self.none(f"folk 0 0:- {person}")
            self.none(f"folk 0 {person} 0:-")

    def test_entries_written_otherwise(self):
        for entry in ("9 0 0 0 sold 3", "9 0 0 0 Deed 0 1 - -", "9 0 0 0 deed 0 1 -", "9 0 0 0 deed 0 1", "9 0 0 0",
                      "9 0 0 0 deed", "9 0 0 deed 0 1 - -", "9 0 0 0 0 deed 0 1 - -", "9 0 0 0 deed 0 1 - - -",
                      "9 0 0 0 void", "9 0 0 0 void 3 1", "9 0 0 0 void -", "9 0 0 0 void 1,3", "9 0 0 0 paid 0 1 - -",
                      "9 0 0 0 deed 3", "9 0 0 0 deed 0 1 () ()", "9 0 0 0 deed 0 1 1, -", "9 0 0 0 deed 0 1 ,1 -",
                      "9 0 0 0 deed 0 1 1,,3 -", "9 0 0 0 deed 0 1 -,1 -", "9 0 0 0 deed 0 1 - 2,-",
                      "9 0 0 0 deed 0 1 -- -", "9 0 0 0 deed - 1 - -", "9 0 0 0  deed 0 1 - -", "9,0,0,0,void,3"):
            self.none(f"write {entry}")

    def test_ahead_of_all_else(self):
        for row in ("folk 10000 5:4 0", "write 3 0 0 9 deed 0 0 - x", "tear 3 3", "is 99 -1", "force 0 -1 -1 x",
                    "course 99 -1 ", "learned 99", "undo x"):
            self.none(row)

    def test_rows_changed_in_whatever_way(self):
        chance = random.Random(102)
        right = 0
        for time in range(6000):
            row = chance.choice(RIGHT_ROWS)
            for turn in range(chance.randint(1, 2)):
                row = text_changed(chance, row, "0123456789-:, \nabdefghiklnoprstuvwy")
            told = self.said(made_desk(), row)
            self.assertEqual(told == "NoRow", ROW.fullmatch(row) is None, row)
            right += told != "NoRow"
        self.assertGreater(right, 500)
        self.assertLess(right, 4000)

    def said(self, desk, row):
        """What the desk answers, or the name of the error; where it refused, its book is as it was."""
        try:
            return desk.say(row)
        except SheafError as error:
            self.assertEqual(desk.say("book"), MADE)
            return type(error).__name__


class Refusals(Asking):
    def test_as_the_stages_do(self):
        desk = made_desk()
        rows = [
            (NoFolk, "folk 0 0:0"), (NoFolk, "folk 0 5:4"), (NoFolk, "folk 0 10000:-"), (NoFolk, "folk 0 -10000:-"),
            (NoFolk, "folk 0 0:10000"), (NoFolk, "folk 0" + " 0:-" * 7), (NoFolk, "folk 0 0:- 0:-1"),
            (NoFolk, "folk -1 0:0"), (NoFolk, "folk 10000 5:4"), (NoAge, "folk -1 0:-"), (NoAge, "folk 10000 0:-"),
            (NoEntry, "write 31 0 0 0 deed 0 1 - -"), (NoEntry, "write -1 0 0 0 deed 0 1 - -"),
            (NoEntry, "write 9 10000 0 0 deed 0 1 - -"), (NoEntry, "write 9 0 -1 0 deed 0 1 - -"),
            (NoEntry, "write 9 0 0 4 deed 0 1 - -"), (NoEntry, "write 9 0 0 0 deed 0 0 - -"),
            (NoEntry, "write 9 0 0 0 deed 0 5 - -"), (NoEntry, "write 9 0 0 0 deed 0 1 3,1 -"),
            (NoEntry, "write 9 0 0 0 deed 0 1 1,1 -"), (NoEntry, "write 9 0 0 0 deed 0 1 1,3,4 -"),
            (NoEntry, "write 9 0 0 0 deed 0 1 9 -"), (NoEntry, "write 9 0 0 0 deed 0 1 - 1"),
            (NoEntry, "write 9 0 0 0 deed 0 1 - 5"), (NoEntry, "write 9 0 0 0 deed 0 1 - 3,2"),
            (NoEntry, "write 9 0 0 0 deed 0 1 - 2,3,4,5"), (NoEntry, "write 9 0 0 0 deed 0 1 -1 -"),
            (NoEntry, "write 9 0 0 0 void 9"), (NoEntry, "write 9 0 0 0 undone -1"), (NoEntry, "write 3 0 0 4 void 1"),
            (Twice, "write 3 0 0 0 deed 0 1 - -"), (Twice, "write 8 0 0 0 void 2"),
            (NoName, "write 9 0 0 0 void 2"), (NoName, "write 9 0 0 0 void 5"), (NoName, "write 9 0 0 0 undone 3"),
            (NoName, "write 9 0 0 0 deed 0 1 5 -"), (NoName, "write 9 0 0 0 deed 0 1 1,2 -"),
            (Missing, "tear 0"), (Missing, "tear 9"), (Missing, "tear -1"), (Missing, "tear 31"),
            (Named, "tear 1"), (Named, "tear 3"), (Named, "tear 5"),
            (NoDeed, "is 5 140 9999"), (NoDeed, "is 0 10000 10000"), (NoDeed, "is -3 140 9999"),
            (NoDay, "is 3 10000 9999"), (NoDay, "is 3 -1 9999"), (NoDay, "is 3 140 10000"), (NoDay, "is 3 140 -1"),
            (NoAct, "force 3 140 9999"), (NoAct, "force 0 -1 -1"), (NoDay, "force 5 10000 9999"),
            (NoDay, "force 5 0 -1"), (NoDeed, "why 5 140 9999"), (NoDay, "why 3 -1 9999"), (NoDay, "why 3 0 10000"),
            (NoDeed, "course 5 9999"), (NoDeed, "course 5 -1"), (NoDay, "course 3 -1"), (NoDay, "course 3 10000"),
            (NoDeed, "learned 5 0"), (NoDeed, "learned 5 10000"), (NoDay, "learned 3 -1"), (NoDay, "learned 3 10000"),
        ]
        for error, row in rows:
            self.refused(error, desk, row)
            self.assertEqual(desk.say("book"), MADE)
        self.answers(desk, [("undo", "ok"), ("book", MADE.replace(" ; 6 160 170 0 paid 1", ""))])

    def test_the_fields(self):
        desk = made_desk()
        self.assertEqual(self.refused(Twice, desk, "write 8 0 0 0 void 3").at, 8)
        for number, by in ((1, 4), (3, 4), (5, 8)):
            self.assertEqual(self.refused(Named, desk, f"tear {number}").by, by)

    def test_too_many(self):
        desk = Desk()
        desk.say("folk 0 0:- 0:-")
        for number in range(16):
            self.answers(desk, [(f"write {number} 0 0 0 deed 0 1 - -", "ok")])
        kept = desk.say("book")
        self.refused(TooMany, desk, "write 16 0 0 0 deed 0 1 - -")
        self.refused(TooMany, desk, "write 16 0 0 0 void 3")
        self.refused(NoName, desk, "write 17 0 0 0 void 16")
        self.assertEqual(desk.say("book"), kept)

    def test_nothing_done(self):
        desk = Desk()
        self.refused(NothingDone, desk, "undo")
        desk.say("folk 0 0:- 0:-")
        self.refused(NothingDone, desk, "undo")
        self.refused(NoEntry, desk, "write 0 0 0 9 deed 0 1 - -")
        self.refused(NothingDone, desk, "undo")
        self.answers(desk, [("write 0 0 0 0 deed 0 1 - -", "ok"), ("undo", "ok")])
        self.refused(NothingDone, desk, "undo")

    def test_a_refused_folk_leaves_the_scribe_and_what_can_be_undone(self):
        desk = made_desk()
        self.refused(NoFolk, desk, "folk 0 0:0")
        self.refused(NoAge, desk, "folk 10000 0:-")
        self.refused(NoRow, desk, "folk 0")
        self.answers(desk, [("undo", "ok")] * 6)
        self.refused(NothingDone, desk, "undo")


class Walks(Asking):
    def told(self, scribe, word, parts):
        """What a row is answered with, told by the stages of the program over a scribe."""
        sheaf = scribe.book()
        rows = {
            "is": lambda: standing_of(sheaf, *parts),
            "force": lambda: "yes" if in_force(sheaf, *parts) else "no",
            "why": lambda: why_words(why_of(sheaf, *parts)),
            "course": lambda: " ".join(f"{day}:{told}" for day, told in course_of(sheaf, *parts)),
            "learned": lambda: " ".join(f"{day}:{told}" for day, told in learned_of(sheaf, *parts)),
            "faults": lambda: " ".join(f"{n}:{person}:{told}" for n, person, told in faults_of(sheaf)) or "none",
            "hands": lambda: " ".join(f"{hand}:{first}:{last}" for hand, first, last in turns_of(sheaf)) or "none",
            "book": lambda: " ; ".join(told_text(sheaf).split("\n")),
            "tear": lambda: scribe.tear(*parts) or "ok",
            "undo": lambda: scribe.undo() or "ok",
        }
        try:
            return rows[word]()
        except SheafError as error:
            return type(error)

    def said(self, desk, row):
        try:
            return desk.say(row)
        except SheafError as error:
            return type(error)

    def written(self, chance, scribe):
        """A row that writes an entry, and what it is answered with."""
        sheaf = scribe.book()
        entry = random_entry(chance, chance.randint(0, 30), told_deeds(sheaf), told_acts(sheaf), 9)
        entry = dressed(chance, len(sheaf[0]), entry)
        try:
            scribe.write(entry)
        except SheafError as error:
            return f"write {told_entry_text(entry)}", type(error)
        return f"write {told_entry_text(entry)}", "ok"

    def asked(self, chance, scribe):
        """A row of another sort, and what it is answered with."""
        many = {"is": 3, "force": 3, "why": 3, "course": 2, "learned": 2, "tear": 1}
        word = chance.choice((*many, *many, "faults", "hands", "book", "undo"))
        number = chance.choice([*told_deeds(scribe.book()), *told_acts(scribe.book()), chance.randint(-1, 31)])
        parts = ([number] + [chance.choice((*range(10), 9999, 10000)) for place in range(2)])[:many.get(word, 0)]
        return " ".join([word, *map(str, parts)]), self.told(scribe, word, parts)

    def test_against_the_stages(self):
        seen = {}
        for seed in range(60):
            chance = random.Random(seed)
            folk, age = rich_book(seed)[:2]
            desk, scribe = Desk(), Scribe(folk, age)
            row = " ".join([f"folk {age}", *told_text((folk, age, ())).split("\n")[0].split(" ")[1:]])
            self.assertEqual(desk.say(row), "ok")
            for time in range(80):
                row, wanted = self.written(chance, scribe) if time % 3 == 1 else self.asked(chance, scribe)
                self.assertEqual(self.said(desk, row), wanted, row)
                key = wanted.__name__ if isinstance(wanted, type) else wanted.split(" ")[0]
                seen[key] = seen.get(key, 0) + 1
        for key in ("ok", "yes", "no", "stands", "paid", "void", "fallen", "ahead", "unknown", "folk", "none", "Twice",
                    "Missing", "Named", "NoDeed", "NoAct", "NoDay", "NothingDone"):
            self.assertIn(key, seen)


def why_words(why):
    """The words of a why's own tuple."""
    below = {"void": 2, "fallen": 2, "paid": 4}
    words = [why[0], str(why[1])]
    if why[0] in below:
        words.append(str(why[below[why[0]]][1]))
    return " ".join(words)


if __name__ == "__main__":
    unittest.main()
