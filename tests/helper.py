"""Books, things of whatever kind, and a slow second telling of the document, for the tests."""

import functools
import itertools
import random
import sys

FOLK = ((-50, None), (0, 9999), (10, 80), (-9999, None), (20, 21))
ACT_WORDS = ("paid", "void", "undone")


def deed(number, day=10, written=10, rests=(), witnesses=(), hand=0):
    return (number, day, written, hand, "deed", 0, 1, rests, witnesses)


def act(number, word, of, day=10, written=10, hand=0):
    return (number, day, written, hand, word, of)


def book(*entries):
    return (FOLK, 14, entries)


def deep(kind, levels=60):
    thing = kind(())
    for level in range(levels - 1):
        thing = {"a": thing} if kind == dict else kind((thing,))
    return thing


# Things of whatever kind (point 4) that are no number of anything, no folk, no entry, no book and no paper.
ODD_THINGS = [
    True, False, None, "", "0", "1", "deed", "yes", "stands", "a" * 2000, [], (), {}, [0], (0,), {0: 0}, {1: "deed"},
    [1], (1,), [[]], ((),), (None,), ("yes",), ("yes", 1), ("yes", 1, ()), ["yes", 1, ()], ("stands", 0, (), ()),
    deep(list), deep(tuple), deep(dict), [0] * 8999, (0,) * 8999, {n: None for n in range(4000)},
    10 ** 39, 10 ** 40 - 1, -(10 ** 40 - 1), -1,
]
NO_DAYS = ODD_THINGS + [10000, -9999, (5, 5), [5]]


def changed_at(row, place, thing):
    return row[:place] + (thing,) + row[place + 1:]


def shuffled(sheaf, seed):
    entries = list(sheaf[2])
    random.Random(seed).shuffle(entries)
    return (sheaf[0], sheaf[1], tuple(entries))


def random_entry(chance, number, deeds, acts, last):
    day, written = chance.randint(0, last), chance.randint(0, last)
    word = chance.choice(("deed", "deed", "paid", "void", "void", "undone", "undone"))
    if word == "undone" and acts:
        return act(number, word, chance.choice(acts), day, written)
    if word in ("paid", "void") and deeds:
        return act(number, word, chance.choice(deeds), day, written)
    rests = tuple(sorted(chance.sample(deeds, min(len(deeds), chance.randint(0, 2)))))
    return deed(number, day, written, rests)


def random_book(seed, most=9, last=6):
    """A book of at most so many entries, all of whose days are from 0 to last."""
    chance = random.Random(seed)
    entries = []
    for number in sorted(chance.sample(range(31), chance.randint(1, most))):
        deeds = [entry[0] for entry in entries if entry[4] == "deed"]
        acts = [entry[0] for entry in entries if entry[4] != "deed"]
        entries.append(random_entry(chance, number, deeds, acts, last))
    chance.shuffle(entries)
    return book(*entries)


def entry_of(sheaf, number):
    return [entry for entry in sheaf[2] if entry[0] == number][0]


def told_deeds(sheaf):
    return sorted(entry[0] for entry in sheaf[2] if entry[4] == "deed")


def told_acts(sheaf):
    return sorted(entry[0] for entry in sheaf[2] if entry[4] in ACT_WORDS)


def told_open(sheaf, number, d, k):
    entry = entry_of(sheaf, number)
    return entry[1] <= d and entry[2] <= k


def acts_of_word(sheaf, words, number):
    return sorted(entry[0] for entry in sheaf[2] if entry[4] in words and entry[5] == number)


def open_of_word(sheaf, words, number, d, k):
    return [n for n in acts_of_word(sheaf, words, number) if told_open(sheaf, n, d, k)]


def told_force(sheaf, number, d, k):
    undones = acts_of_word(sheaf, ("undone",), number)
    return told_open(sheaf, number, d, k) and not any(told_force(sheaf, n, d, k) for n in undones)


def told_standing(sheaf, number, d, k):
    entry = entry_of(sheaf, number)
    below = [told_standing(sheaf, rest, d, k) for rest in entry[7]]
    rows = [
        ("unknown", entry[2] > k),
        ("ahead", entry[1] > d),
        ("void", any(told_force(sheaf, n, d, k) for n in acts_of_word(sheaf, ("void",), number))),
        ("fallen", any(word in ("unknown", "ahead", "void", "fallen") for word in below)),
        ("paid", any(told_force(sheaf, n, d, k) for n in acts_of_word(sheaf, ("paid",), number))),
        ("stands", True),
    ]
    return [word for word, so in rows if so][0]


def choices(lists):
    """All tuples with one of each list, the one of the first of each ahead of all others."""
    return list(itertools.product(*lists))


def joined(lists):
    return [thing for row in lists for thing in row]


def all_act_papers(sheaf, number, d, k):
    """Every yes or no of an act, the one by the least numbers first; none of an act that is not open."""
    if not told_open(sheaf, number, d, k):
        return []
    undones = open_of_word(sheaf, ("undone",), number, d, k)
    if told_force(sheaf, number, d, k):
        return [("yes", number, rows) for rows in choices(all_act_papers(sheaf, n, d, k) for n in undones)]
    return [("no", number, yes) for yes in all_yeses(sheaf, undones, d, k)]


def all_yeses(sheaf, numbers, d, k):
    return joined(all_act_papers(sheaf, n, d, k) for n in numbers if told_force(sheaf, n, d, k))


def all_whys(sheaf, number, d, k):
    """Every why of a deed, the one by the least numbers first."""
    word, rests = told_standing(sheaf, number, d, k), entry_of(sheaf, number)[7]
    voids, paids = (open_of_word(sheaf, (act_word,), number, d, k) for act_word in ("void", "paid"))
    if word in ("unknown", "ahead"):
        return [(word, number)]
    if word == "void":
        return [(word, number, yes) for yes in all_yeses(sheaf, voids, d, k)]
    if word == "fallen":
        broken = [rest for rest in rests if told_standing(sheaf, rest, d, k) not in ("stands", "paid")]
        return [(word, number, why) for why in joined(all_whys(sheaf, rest, d, k) for rest in broken)]
    whys = choices(all_whys(sheaf, rest, d, k) for rest in rests)
    if word == "stands":
        nos = choices(all_act_papers(sheaf, n, d, k) for n in sorted(voids + paids))
        return [(word, number, *both) for both in choices((nos, whys))]
    nos = choices(all_act_papers(sheaf, n, d, k) for n in voids)
    return [(word, number, *three) for three in choices((nos, whys, all_yeses(sheaf, paids, d, k)))]


def twisted(paper):
    """Things that come of a paper by making one place, of whatever depth, otherwise."""
    if isinstance(paper, tuple):
        yield list(paper)
        yield paper + ((),)
        yield paper[:-1]
        yield paper[::-1]
        yield {place: part for place, part in enumerate(paper)}
        for place, part in enumerate(paper):
            for other in twisted(part):
                yield changed_at(paper, place, other)
    elif isinstance(paper, int):
        yield from (paper + 1, paper - 1, str(paper), None, True, False, [paper], (paper,), -paper, {})
    else:
        yield from ("yes", "no", "void", "paid", "fallen", "stands", "ahead", "unknown", "", paper + " ")
        yield from (None, 0, [paper], (paper,), paper.upper())


def stretched(sheaf, days):
    """The book with each day and each written day moved to the place of that number in days."""
    moved = tuple((entry[0], days[entry[1]], days[entry[2]]) + entry[3:] for entry in sheaf[2])
    return (sheaf[0], sheaf[1], moved)


def told_turns(words):
    """The tuples (day, word) of day 0 and of each day that has another word than the day ahead."""
    return [(day, word) for day, word in enumerate(words) if day == 0 or words[day - 1] != word]


def less_one(sheaf, entry):
    """The book without an entry, the others as they stand, whether that is a book or not."""
    return (sheaf[0], sheaf[1], tuple(other for other in sheaf[2] if other != entry))


def named_by(sheaf, number):
    """The rising list of the numbers of the entries that name a number."""
    rests = [entry[0] for entry in sheaf[2] if entry[4] == "deed" and number in entry[7]]
    return sorted(rests + acts_of_word(sheaf, ACT_WORDS, number))


def lines_run(tell, *asked):
    """How many lines Python goes through, each time that it does, until the answer is told."""
    many = 0

    def seen(frame, event, told):
        nonlocal many
        many += event == "line"
        return seen

    before = sys.gettrace()
    sys.settrace(seen)
    try:
        tell(*asked)
    finally:
        sys.settrace(before)
    return many


def orders_of(size):
    """All orders of so many deeds, the first one first."""
    return list(itertools.permutations(range(size)))


@functools.lru_cache(maxsize=None)
def orders_with(size, copy_word):
    """The set of the orders in which one word of copies is so."""
    word, deed_told, other = copy_word
    tellings = {
        "at": lambda order: order[other] == deed_told,
        "not": lambda order: order[other] != deed_told,
        "ahead": lambda order: order.index(deed_told) < order.index(other),
    }
    return frozenset(order for order in orders_of(size) if tellings[word](order))


def told_orders(size, words):
    """All orders that fit, the first one first, found by going through all orders."""
    return [order for order in orders_of(size) if all(order in orders_with(size, word) for word in words)]


def told_clashes(size, words):
    """All clashes, those of fewer places first, and of as many the first one first."""
    def fits(places):
        sets = [orders_with(size, words[place]) for place in places]
        return not sets or len(frozenset.intersection(*sets)) > 0

    rows = [row for many in range(len(words) + 1) for row in itertools.combinations(range(len(words)), many)]
    return [row for row in rows
            if not fits(row) and all(fits([other for other in row if other != place]) for place in row)]


def all_copy_words(size):
    """All words of copies of a book of so many pages."""
    pairs = list(itertools.product(range(size), repeat=2))
    placed = [(word, *pair) for word in ("at", "not") for pair in pairs]
    return placed + [("ahead", *pair) for pair in pairs if pair[0] != pair[1]]


def random_words(seed, size, most=8):
    """Words of copies; of some seeds with "not" and "ahead" alone, so that more of them fit."""
    chance = random.Random(seed)
    words = [word for word in all_copy_words(size) if seed % 3 or word[0] != "at"]
    return tuple(chance.choice(words) for place in range(chance.randint(0, most)))


def random_person(chance):
    born = chance.choice((-9999, -1, 0, chance.randint(-9999, 9998)))
    return (born, chance.choice((None, born + 1, 9999, chance.randint(born + 1, 9999))))


def dressed(chance, many, entry):
    """The entry by some hand, and with some of so many persons."""
    entry = changed_at(entry, 3, chance.randint(0, 3))
    if entry[4] != "deed":
        return entry
    giver, taker, *others = chance.sample(range(many), many)
    witnesses = tuple(sorted(others[:chance.randint(0, 3)]))
    return entry[:5] + (giver, taker, entry[7], witnesses)


def rich_book(seed, most=16, last=9999):
    """A book of some folk, age, hands and witnesses."""
    chance = random.Random(seed)
    folk = tuple(random_person(chance) for place in range(chance.randint(2, 6)))
    entries = tuple(dressed(chance, len(folk), entry) for entry in random_book(seed, most, last)[2])
    return (folk, chance.choice((0, 14, 9999)), entries)


def rising(sheaf):
    """The book with its entries by their numbers."""
    return (sheaf[0], sheaf[1], tuple(sorted(sheaf[2])))


def told_entry_text(entry):
    parts = [str(part) for part in entry[:6]]
    if entry[4] == "deed":
        lists = [",".join(str(number) for number in numbers) or "-" for numbers in entry[7:]]
        parts = [*parts, str(entry[6]), *lists]
    return " ".join(parts)


def told_text(sheaf):
    """The text of a book."""
    folk = [f" {born}:{'-' if died is None else died}" for born, died in sheaf[0]]
    rows = ["folk" + "".join(folk), f"age {sheaf[1]}", *[told_entry_text(entry) for entry in rising(sheaf)[2]]]
    return "\n".join(rows)


def text_changed(chance, text, signs):
    """The text with one sign more, less, or another one, or with two pieces of it turned about."""
    at, to = sorted(chance.choices(range(len(text) + 1), k=2))
    way = chance.randint(0, 3)
    if way == 0:
        return text[:at] + chance.choice(signs) + text[at:]
    if way == 1:
        return text[:at] + text[at + 1:]
    if way == 2:
        return text[:at] + chance.choice(signs) + text[at + 1:]
    return text[:at] + text[to:] + text[at:to]
