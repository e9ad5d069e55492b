"""Point 101: books as texts."""

import random
import re
import unittest

from deedsheaf.books import is_book
from deedsheaf.errors import NoText
from deedsheaf.texts import book_read, book_text
from tests.helper import (FOLK, ODD_THINGS, act, book, deed, random_book, rich_book, rising, shuffled, text_changed,
                          told_text)

SHEAF = (((-50, None), (0, 9999), (-10, -8), (7, 80), (20, 21)), 14, (
    (0, 10, 12, 0, "deed", 0, 1, (), ()),
    (2, 0, 9999, 3, "deed", 1, 0, (0,), (2,)),
    (10, 100, 9, 1, "deed", 4, 3, (0, 2), (0, 1, 2)),
    (11, 10, 10, 2, "void", 10),
    (29, 11, 10, 2, "undone", 11),
    (30, 9999, 0, 2, "paid", 0),
))
ROWS = [
    "folk -50:- 0:9999 -10:-8 7:80 20:21",
    "age 14",
    "0 10 12 0 deed 0 1 - -",
    "2 0 9999 3 deed 1 0 0 2",
    "10 100 9 1 deed 4 3 0,2 0,1,2",
    "11 10 10 2 void 10",
    "29 11 10 2 undone 11",
    "30 9999 0 2 paid 0",
]
TEXT = "\n".join(ROWS)
NUMBER = r"(?:0|-?[1-9][0-9]*)"
LIST = rf"(?:-|{NUMBER}(?:,{NUMBER})*)"
FOLK_ROW = re.compile(rf"folk((?: {NUMBER}:(?:-|{NUMBER}))+)")
AGE_ROW = re.compile(rf"age ({NUMBER})")
DEED_ROW = re.compile(rf"({NUMBER}) ({NUMBER}) ({NUMBER}) ({NUMBER}) (deed) ({NUMBER}) ({NUMBER}) ({LIST}) ({LIST})")
ACT_ROW = re.compile(rf"({NUMBER}) ({NUMBER}) ({NUMBER}) ({NUMBER}) (paid|void|undone) ({NUMBER})")


def with_row(place, row):
    """The text with another row at a place."""
    return "\n".join(ROWS[:place] + [row] + ROWS[place + 1:])


def list_told(text):
    return () if text == "-" else tuple(int(number) for number in text.split(","))


def entry_told(row):
    if found := DEED_ROW.fullmatch(row):
        parts = found.groups()
        return (*map(int, parts[:4]), "deed", int(parts[5]), int(parts[6]), list_told(parts[7]), list_told(parts[8]))
    if found := ACT_ROW.fullmatch(row):
        parts = found.groups()
        return (*map(int, parts[:4]), parts[4], int(parts[5]))
    return None


def told_read(text):
    """The book that a text tells, None where it tells none, found by patterns."""
    rows = text.split("\n")
    if len(rows) < 2 or not FOLK_ROW.fullmatch(rows[0]) or not AGE_ROW.fullmatch(rows[1]):
        return None
    pairs = [person.split(":") for person in rows[0].split(" ")[1:]]
    folk = tuple((int(born), None if died == "-" else int(died)) for born, died in pairs)
    entries = tuple(entry_told(row) for row in rows[2:])
    found = (folk, int(rows[1][4:]), entries)
    if None in entries or not is_book(found) or list(entries) != sorted(entries):
        return None
    return found


class Writing(unittest.TestCase):
    def test_a_book_without_entries(self):
        self.assertEqual(book_text((((0, None),), 0, ())), "folk 0:-\nage 0")
        self.assertEqual(book_text((((-9999, -9998), (9999, None)), 9999, ())), "folk -9999:-9998 9999:-\nage 9999")
        self.assertEqual(book_text((((-1, 0),), 5, ())), "folk -1:0\nage 5")

    def test_persons(self):
        folk = ((-9999, 9999), (-1, None), (0, 1), (5, 10), (9998, 9999), (-7, -6))
        self.assertEqual(book_text((folk, 1, ())), "folk -9999:9999 -1:- 0:1 5:10 9998:9999 -7:-6\nage 1")

    def test_all_sorts_of_entries(self):
        self.assertEqual(book_text(SHEAF), TEXT)
        self.assertIs(type(book_text(SHEAF)), str)

    def test_rests_and_witnesses_of_none_one_and_several(self):
        sheaf = book(deed(0), deed(1, rests=(0,)), deed(2, rests=(0, 1)), deed(3, witnesses=(2,)),
                     deed(4, rests=(2,), witnesses=(2, 3)), deed(5, rests=(1, 3), witnesses=(2, 3, 4)))
        tails = [row.partition(" deed 0 1 ")[2] for row in book_text(sheaf).split("\n")[2:]]
        self.assertEqual(tails, ["- -", "0 -", "0,1 -", "- 2", "2 2,3", "1,3 2,3,4"])

    def test_entries_in_whatever_order(self):
        for seed in range(9):
            self.assertEqual(book_text(shuffled(SHEAF, seed)), TEXT)

    def test_entries_go_by_numbers_and_not_by_figures(self):
        sheaf = book(deed(10), deed(9), deed(2), act(30, "paid", 2), act(3, "void", 2))
        self.assertEqual([row.split(" ")[0] for row in book_text(sheaf).split("\n")[2:]], ["2", "3", "9", "10", "30"])

    def test_many_books(self):
        for seed in range(300):
            for sheaf in (rich_book(seed), random_book(seed)):
                self.assertEqual(book_text(sheaf), told_text(sheaf))
                self.assertEqual(book_text(shuffled(sheaf, seed)), told_text(sheaf))


class Reading(unittest.TestCase):
    def refused(self, text):
        with self.assertRaises(NoText, msg=repr(text)) as caught:
            book_read(text)
        self.assertIs(type(caught.exception), NoText)

    def test_what_writes_a_book_is_read(self):
        self.assertEqual(book_read(TEXT), SHEAF)
        self.assertEqual(book_read("folk 0:-\nage 0"), (((0, None),), 0, ()))
        self.assertEqual(book_read("folk -3:-2 -3:-\nage 9999"), (((-3, -2), (-3, None)), 9999, ()))

    def test_what_was_written_is_read_again_with_its_entries_by_their_numbers(self):
        for seed in range(300):
            sheaf = rich_book(seed)
            told = book_read(book_text(sheaf))
            self.assertEqual(told, rising(sheaf))
            self.assertEqual(repr(told), repr(rising(sheaf)))
            self.assertIs(is_book(told), True)

    def test_things_that_are_no_text(self):
        for thing in ODD_THINGS:
            self.refused(thing)
        for thing in (SHEAF, ROWS, tuple(ROWS), (TEXT,), [TEXT], {TEXT: TEXT}):
            self.refused(thing)

    def test_numbers_that_are_written_otherwise(self):
        for number in ("00", "01", "014", "-0", "+14", "+0", "--14", "-", "", "1_4", "0x1", "1.0", "1e1", "1 4", " 14",
                       "14 ", "\t14", "14\t", "1,4", "fourteen", "14-", "None", "True", "\u0661", "\u00b2", "\uff11"):
            self.refused(with_row(1, f"age {number}"))
            self.refused(with_row(0, f"folk {number}:- 0:9999 -10:-8 7:80 20:21"))
            self.refused(with_row(2, f"{number} 10 12 0 deed 0 1 - -"))
            self.refused(with_row(2, f"0 10 12 0 deed 0 {number} - -"))
            self.refused(with_row(5, f"11 10 10 2 void {number}"))
            if number != "-":
                self.refused(with_row(0, f"folk -50:{number} 0:9999 -10:-8 7:80 20:21"))
                self.refused(with_row(3, f"2 0 9999 3 deed 1 0 0 {number}"))

    def test_each_number_with_a_nought_or_a_sign_ahead(self):
        for found in re.finditer(r"-?[0-9]+", TEXT):
            for ahead in ("0", "+", "-0", "00", "--"):
                self.refused(TEXT[:found.start()] + ahead + TEXT[found.start():])

    def test_each_blank_and_line_end_more_less_or_otherwise(self):
        for place, sign in enumerate(TEXT):
            if sign in " \n":
                for other in ("", "  ", "\n\n", " \n", "\n ", "\t", "\r\n", "\r", "_", " ; ", "\x0b", "\x0c",
                              " " if sign == "\n" else "\n"):
                    self.refused(TEXT[:place] + other + TEXT[place + 1:])

    def test_something_more_ahead_or_behind(self):
        for more in (" ", "\n", "\n\n", "\t", "\r", "-", "x", "\n ", ";", "\0"):
            self.refused(TEXT + more)
            self.refused(more + TEXT)
            self.refused("folk 0:-\nage 0" + more)

    def test_rows_in_another_order(self):
        for place in range(len(ROWS) - 1):
            rows = list(ROWS)
            rows[place], rows[place + 1] = rows[place + 1], rows[place]
            self.refused("\n".join(rows))
        self.refused("\n".join(ROWS[:2] + ROWS[:1:-1]))

    def test_a_row_twice_or_not_at_all(self):
        for place, row in enumerate(ROWS):
            self.refused("\n".join(ROWS[:place] + [row] + ROWS[place:]))
            self.refused("\n".join(ROWS + [row]))
            left = "\n".join(ROWS[:place] + ROWS[place + 1:])
            if place in (6, 7):
                self.assertEqual(book_text(book_read(left)), left)
            else:
                self.refused(left)
        self.refused("")
        self.refused("folk 0:-")
        self.refused("age 0")

    def test_a_word_more_or_less(self):
        for place, row in enumerate(ROWS):
            words = row.split(" ")
            for at in range(len(words)):
                if place > 0:
                    self.refused(with_row(place, " ".join(words[:at] + words[at + 1:])))
                    self.refused(with_row(place, " ".join(words[:at] + ["1"] + words[at:])))
        for row in ("folk", "", "0:- 1:-", "Folk 0:-", "folks 0:-", "folk 0:- folk"):
            self.refused(f"{row}\nage 0")
        for row in ("age", "", "0", "Age 0", "ages 0", "age 0 0"):
            self.refused(f"folk 0:-\n{row}")

    def test_signs_that_are_no_figures(self):
        for place, sign in enumerate(TEXT):
            if sign in "0123456789":
                for other in ("a", "O", ".", "_", "'", "\u0660"):
                    self.refused(TEXT[:place] + other + TEXT[place + 1:])

    def test_other_words(self):
        for word in ("Deed", "DEED", "paid", "void", "undone", "sold", "act", ""):
            self.refused(with_row(2, f"0 10 12 0 {word} 0 1 - -"))
        for word in ("deed", "Void", "voids", "voided", "sold", "", "0"):
            self.refused(with_row(5, f"11 10 10 2 {word} 10"))

    def test_persons_and_lists_written_otherwise(self):
        for person in ("0", ":", "0:", ":5", "0:5:", "0:5:6", "0-5", "0;5", "0:-:", "-:5", "-:-", "0:--", "0:None",
                       "(0,5)", "0 :5", "0: 5", "0:0005"):
            self.refused(f"folk {person}\nage 0")
        for numbers in ("", "0,", ",0", "0,,2", "-,0", "0,-", "--", "0;2", "0, 2", "()", "(0,)", "0.2", "none"):
            self.refused(with_row(4, f"10 100 9 1 deed 4 3 {numbers} 0,1,2"))
            self.refused(with_row(4, f"10 100 9 1 deed 4 3 0,2 {numbers}"))

    def test_texts_of_what_is_no_book(self):
        for folk in ("0:0", "5:4", "-10000:-", "10000:-", "0:10000", " ".join(["0:-"] * 7), "0:-1"):
            self.refused(f"folk {folk}\nage 0")
        for age in ("-1", "10000", "9" * 40, "9" * 41, "9" * 1900):
            self.refused(f"folk 0:-\nage {age}")
        for entry in ("31 10 12 0 deed 0 1 - -", "-1 10 12 0 deed 0 1 - -", "3 10000 12 0 deed 0 1 - -",
                      "3 -1 12 0 deed 0 1 - -", "3 10 10000 0 deed 0 1 - -", "3 10 12 4 deed 0 1 - -",
                      "3 10 12 -1 deed 0 1 - -", "3 10 12 0 deed 1 1 - -", "3 10 12 0 deed 0 5 - -",
                      "3 10 12 0 deed 0 1 3 -", "3 10 12 0 deed 0 1 1 -", "3 10 12 0 deed 0 1 2,0 -",
                      "3 10 12 0 deed 0 1 0,0 -", "3 10 12 0 deed 0 1 0,1,2 -", "3 10 12 0 deed 0 1 - 0",
                      "3 10 12 0 deed 0 1 - 3,2", "3 10 12 0 deed 0 1 - 2,2", "3 10 12 0 deed 0 1 - 5",
                      "3 10 12 0 void 3", "3 10 12 0 void 1", "3 10 12 0 undone 2", "3 10 12 0 paid -1",
                      "2 10 12 0 deed 0 1 - -"):
            self.refused("\n".join(ROWS[:4] + [entry]))
        self.assertEqual(len(book_read("\n".join(ROWS[:4] + ["3 10 12 0 deed 0 1 0,2 2,3,4"]))[2]), 3)

    def test_sixteen_entries_and_seventeen(self):
        rows = ["folk 0:- 0:-", "age 0"] + [f"{number} 0 0 0 deed 0 1 - -" for number in range(17)]
        self.assertEqual(len(book_read("\n".join(rows[:-1]))[2]), 16)
        self.refused("\n".join(rows))

    def test_texts_changed_in_whatever_way(self):
        chance = random.Random(101)
        read = 0
        for seed in range(4000):
            text = told_text(rich_book(seed, most=5, last=30))
            for time in range(chance.randint(1, 2)):
                text = text_changed(chance, text, "0123456789-:, \n+deadf")
            wanted = told_read(text)
            if wanted is None:
                self.refused(text)
            else:
                read += 1
                self.assertEqual(book_read(text), wanted)
                self.assertEqual(book_text(wanted), text)
        self.assertGreater(read, 300)
        self.assertLess(read, 2500)

    def test_what_the_reader_was_told_of_matters_nothing_later(self):
        self.refused(TEXT + "\n")
        self.assertEqual(book_read(TEXT), SHEAF)
        self.assertEqual(book_read(text=TEXT), book_read(TEXT))
        self.assertEqual(book_text(book=SHEAF), TEXT)


class LongestText(unittest.TestCase):
    def test_it_is_read_again(self):
        folk = ((-9999, -9998),) * 6
        entries = [(number, 9999, 9999, 3, "deed", 0, 1, (), (2, 3, 4)) for number in range(15, 17)]
        entries += [(number, 9999, 9999, 3, "deed", 0, 1, (15, 16), (3, 4, 5)) for number in range(17, 31)]
        sheaf = (folk, 9999, tuple(entries))
        self.assertIs(is_book(sheaf), True)
        self.assertLess(len(book_text(sheaf)), 2000)
        self.assertEqual(book_read(book_text(sheaf)), sheaf)
        self.assertEqual(book_text((FOLK, 0, ())), told_text((FOLK, 0, ())))


if __name__ == "__main__":
    unittest.main()
