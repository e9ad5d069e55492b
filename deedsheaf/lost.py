"""A lost book: which orders of its deeds fit the words of copies, and which words clash (points 81, 82 and 83)."""

from deedsheaf.books import is_rising_below, is_within
from deedsheaf.errors import NoSize, NoWords

MOST_PAGES = 7
MOST_WORDS = 8


def is_copy_word(size, thing):
    """Whether a thing is a word of copies of a book of so many pages."""
    if not isinstance(thing, tuple) or len(thing) != 3:
        return False
    word, deed, other = thing
    if not is_within(deed, 0, size - 1) or not is_within(other, 0, size - 1):
        return False
    return word in ("at", "not") or (word == "ahead" and deed != other)


def are_copy_words(size, thing):
    """Whether a thing, of whatever kind, are words of copies of a book of so many pages."""
    if not isinstance(thing, tuple) or len(thing) > MOST_WORDS:
        return False
    return all([is_copy_word(size, word) for word in thing])


def check_lost(size, words):
    """Refuse what is no number of pages and what are no words of copies."""
    if not is_within(size, 1, MOST_PAGES):
        raise NoSize("a lost book had from 1 to 7 pages")
    if not are_copy_words(size, words):
        raise NoWords("these are no words of copies")


def all_bits(size):
    """The set of all deeds, or of all pages; sets of these are whole numbers, with a bit for each."""
    return (1 << size) - 1


def pages_let(size, words):
    """For each deed the set of the pages that the words "at" and "not" leave to it."""
    let = [all_bits(size)] * size
    for word, deed, page in words:
        if word == "at":
            let[deed] &= 1 << page
        if word == "not":
            let[deed] &= ~(1 << page)
    return let


def deeds_ahead(size, words):
    """For each deed the set of the deeds that words put ahead of it."""
    ahead = [0] * size
    for word, deed, other in words:
        if word == "ahead":
            ahead[other] |= 1 << deed
    return ahead


def deeds_next(let, ahead, page, placed):
    """The deeds that may be on a page, rising, where the set of those on the pages ahead of it is placed."""
    left = [deed for deed, pages in enumerate(let) if (pages >> page) & 1 and not (placed >> deed) & 1]
    return [deed for deed in left if (ahead[deed] & placed) == ahead[deed]]


def reached_layers(size, words):
    """For each page a dict: by the set of the deeds on the pages ahead, the deeds that may be on it, rising."""
    let = pages_let(size, words)
    ahead = deeds_ahead(size, words)
    layers = []
    reached = {0: True}
    for page in range(size):
        layer = {placed: deeds_next(let, ahead, page, placed) for placed in reached}
        reached = {placed | (1 << deed): True for placed in layer for deed in layer[placed]}
        layers.append(layer)
    return layers


def fitting_layers(size, words):
    """The layers with what is in some order that fits, and with nothing else; all are empty where none fits."""
    layers = []
    behind = {all_bits(size): True}
    # Only from the last page on is it known from where an order goes on to its end.
    for layer in reached_layers(size, words)[::-1]:
        kept = {}
        for placed in layer:
            deeds = [deed for deed in layer[placed] if placed | (1 << deed) in behind]
            if deeds:
                kept[placed] = deeds
        layers.append(kept)
        behind = kept
    return layers[::-1]


def has_order(size, words):
    """Whether some order fits the words."""
    return len(fitting_layers(size, words)[0]) > 0


def orders_many(size, words):
    """How many orders fit the words."""
    check_lost(size, words)
    ways = {all_bits(size): 1}
    for layer in fitting_layers(size, words)[::-1]:
        ways = {placed: sum([ways[placed | (1 << deed)] for deed in layer[placed]]) for placed in layer}
    return ways.get(0, 0)


def first_order(size, words):
    """The first order that fits the words, None where there is none."""
    check_lost(size, words)
    order = []
    placed = 0
    for layer in fitting_layers(size, words):
        if placed not in layer:
            return None
        deed = layer[placed][0]
        order.append(deed)
        placed |= 1 << deed
    return tuple(order)


def open_pages(size, words):
    """For each page the rising tuple of the deeds that are there in some order that fits."""
    check_lost(size, words)
    layers = fitting_layers(size, words)
    return [tuple(sorted({deed for placed in layer for deed in layer[placed]})) for layer in layers]


def settled_pages(size, words):
    """For each page the one deed that is there in all orders that fit, None where there are several or none."""
    return tuple([deeds[0] if len(deeds) == 1 else None for deeds in open_pages(size, words)])


def is_order(size, thing):
    """Whether a thing is an order of so many deeds."""
    if not isinstance(thing, tuple) or len(thing) != size:
        return False
    return all([is_within(deed, 0, size - 1) for deed in thing]) and len(set(thing)) == size


def is_so(order, copy_word):
    """Whether a word of copies is so in an order."""
    word, deed, other = copy_word
    page = order.index(deed)
    if word == "at":
        return page == other
    if word == "not":
        return page != other
    return page < order.index(other)


def order_fits(size, words, thing):
    """Whether a thing, of whatever kind, is an order that fits the words."""
    check_lost(size, words)
    return is_order(size, thing) and all([is_so(thing, word) for word in words])


def words_at(words, places):
    """The words at these places."""
    return [words[place] for place in places]


def longer_rows(rows, many):
    """The rising tuples that are one of these rows and one place more, less than many, the first of them first."""
    return [row + (place,) for row in rows for place in range(many) if not row or row[-1] < place]


def first_unfit(size, words, rows):
    """The first of these rows of places whose words no order fits, None where there is none."""
    for row in rows:
        if not has_order(size, words_at(words, row)):
            return row
    return None


def first_clash(size, words):
    """The first clash of the fewest places, None where some order fits all words."""
    check_lost(size, words)
    if has_order(size, words):
        return None
    rows = [()]
    clash = None
    # Some order fits any fewer words than the ones looked at, so the first that none fits are a clash.
    while clash is None:
        rows = longer_rows(rows, len(words))
        clash = first_unfit(size, words, rows)
    return clash


def clash_holds(size, words, thing):
    """Whether a thing, of whatever kind, is a clash."""
    check_lost(size, words)
    if not is_rising_below(thing, len(words), len(words)) or has_order(size, words_at(words, thing)):
        return False
    fewer = [[place for place in thing if place != left_out] for left_out in thing]
    return all([has_order(size, words_at(words, places)) for places in fewer])
