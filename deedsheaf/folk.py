"""Which witnesses could be none, and which hands wrote when (points 61 and 62)."""

from deedsheaf.books import DAY, HAND, LAST_HAND, NUMBER, WITNESSES, WRITTEN, deed_entries
from deedsheaf.checks import check_day


def fault_of(person, age, day):
    """Why a person could be no witness on a day, None where they could."""
    born, died = person
    if born > day:
        return "unborn"
    if died is not None and died <= day:
        return "dead"
    if day - born < age:
        return "young"
    return None


def faults_of(book):
    """The rising list of tuples (deed, person, word) of all witnesses who could be none."""
    folk, age, entries = book
    faults = []
    for deed in deed_entries(book):
        for person in deed[WITNESSES]:
            word = fault_of(folk[person], age, deed[DAY])
            if word is not None:
                faults.append((deed[NUMBER], person, word))
    return faults


def could_witness(book, d):
    """The rising list of the persons who could be witnesses on a day."""
    check_day(d)
    folk, age, entries = book
    return [number for number, person in enumerate(folk) if fault_of(person, age, d) is None]


def turns_of(book):
    """The list of the hands' turns, tuples (hand, first, last), by the days on which entries were written."""
    turns = []
    for entry in sorted(book[2], key=lambda row: (row[WRITTEN], row[NUMBER])):
        hand, number = entry[HAND], entry[NUMBER]
        if turns and turns[-1][0] == hand:
            turns[-1] = (hand, turns[-1][1], number)
        else:
            turns.append((hand, number, number))
    return turns


def often_hands(book):
    """The rising list of the hands that have several turns."""
    hands = [hand for hand, first, last in turns_of(book)]
    return [hand for hand in range(LAST_HAND + 1) if hands.count(hand) > 1]
