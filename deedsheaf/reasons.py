"""Papers of nested reasons: making them, and telling whether a thing is one (points 31, 32 and 33)."""

from deedsheaf.books import NUMBER, RESTS, deed_entries, is_whole
from deedsheaf.checks import check_act, check_day, check_deed
from deedsheaf.errors import NoAct
from deedsheaf.standing import CARRYING, acts_on, all_standing, open_acts

# How many parts the why of a deed has, by what the deed is.
WHY_SIZES = {"unknown": 2, "ahead": 2, "void": 3, "fallen": 3, "paid": 5, "stands": 4}


def paper_over(number, undones):
    """The paper of an open act, made of the papers of its open undones."""
    yeses = [paper for paper in undones if paper[0] == "yes"]
    if yeses:
        return ("no", number, yeses[0])
    return ("yes", number, tuple(undones))


def papers_of(acts):
    """A dict of the papers of open acts, which are given by their numbers."""
    papers = {}
    # An undone has a greater number than what it is of, so its paper is made ahead of that one's.
    for act in acts[::-1]:
        undones = acts_on(acts, "undone", act[NUMBER])
        papers[act[NUMBER]] = paper_over(act[NUMBER], [papers[undone] for undone in undones])
    return papers


def first_yes(papers, numbers):
    """The yes of the first of the numbered acts that has one."""
    return [papers[number] for number in numbers if papers[number][0] == "yes"][0]


def why_over(deed, word, acts, papers, whys):
    """The why of a deed that is so by word, made of the papers of the open acts and of the whys of its rests."""
    number = deed[NUMBER]
    voids = acts_on(acts, "void", number)
    paids = acts_on(acts, "paid", number)
    below = tuple([whys[rest] for rest in deed[RESTS]])
    if word == "void":
        return ("void", number, first_yes(papers, voids))
    if word == "fallen":
        return ("fallen", number, [why for why in below if why[0] not in CARRYING][0])
    if word == "paid":
        nos = tuple([papers[act] for act in voids])
        return ("paid", number, nos, below, first_yes(papers, paids))
    if word == "stands":
        nos = tuple([papers[act] for act in sorted(voids + paids)])
        return ("stands", number, nos, below)
    return (word, number)


def act_paper(book, act, d, k=9999):
    """The yes or the no of an open act."""
    check_act(book, act)
    check_day(d)
    check_day(k)
    papers = papers_of(open_acts(book, d, k))
    if act not in papers:
        raise NoAct("the act is not open")
    return papers[act]


def why_of(book, deed, d, k=9999):
    """The why of a deed."""
    check_deed(book, deed)
    words = all_standing(book, d, k)
    acts = open_acts(book, d, k)
    papers = papers_of(acts)
    whys = {}
    # What a deed rests on has a lesser number, so its why is made ahead of the deed's.
    for entry in deed_entries(book):
        whys[entry[NUMBER]] = why_over(entry, words[entry[NUMBER]], acts, papers, whys)
    return whys[deed]


def has_head(thing, size, word, number):
    """Whether a thing is a tuple of this size with this word and this number ahead."""
    if not isinstance(thing, tuple) or len(thing) != size:
        return False
    return thing[0] == word and is_whole(thing[1]) and thing[1] == number


def is_yes(acts, act, thing):
    """Whether a thing is a yes of an open act; acts are all the open ones."""
    return has_head(thing, 3, "yes", act) and are_nos(acts, acts_on(acts, "undone", act), thing[2])


def is_no(acts, act, thing):
    """Whether a thing is a no of an open act; acts are all the open ones."""
    return has_head(thing, 3, "no", act) and is_some_yes(acts, acts_on(acts, "undone", act), thing[2])


def is_some_yes(acts, numbers, thing):
    """Whether a thing is a yes of some of the numbered acts."""
    return any([is_yes(acts, number, thing) for number in numbers])


def are_nos(acts, numbers, thing):
    """Whether a thing is a tuple with a no of each of the numbered acts, in their order."""
    if not isinstance(thing, tuple) or len(thing) != len(numbers):
        return False
    return all([is_no(acts, number, part) for number, part in zip(numbers, thing)])


def are_whys(deeds, words, acts, numbers, thing):
    """Whether a thing is a tuple with a why of each of the numbered deeds, in their order."""
    if not isinstance(thing, tuple) or len(thing) != len(numbers):
        return False
    return all([is_why(deeds, words, acts, number, part) for number, part in zip(numbers, thing)])


def is_why(deeds, words, acts, deed, thing):
    """Whether a thing is a why of a deed; deeds and words tell of each number its entry and what it is."""
    word = words[deed]
    if not has_head(thing, WHY_SIZES[word], word, deed):
        return False
    rests = deeds[deed][RESTS]
    voids = acts_on(acts, "void", deed)
    paids = acts_on(acts, "paid", deed)
    if word == "void":
        return is_some_yes(acts, voids, thing[2])
    if word == "fallen":
        broken = [rest for rest in rests if words[rest] not in CARRYING]
        return any([is_why(deeds, words, acts, rest, thing[2]) for rest in broken])
    if word == "paid":
        return (are_nos(acts, voids, thing[2]) and are_whys(deeds, words, acts, rests, thing[3])
                and is_some_yes(acts, paids, thing[4]))
    if word == "stands":
        return (are_nos(acts, sorted(voids + paids), thing[2])
                and are_whys(deeds, words, acts, rests, thing[3]))
    return True


def act_paper_holds(book, act, d, k, thing):
    """Whether a thing, of whatever kind, is a yes or a no of an act."""
    check_act(book, act)
    check_day(d)
    check_day(k)
    acts = open_acts(book, d, k)
    if act not in [entry[NUMBER] for entry in acts]:
        return False
    return is_yes(acts, act, thing) or is_no(acts, act, thing)


def why_holds(book, deed, d, k, thing):
    """Whether a thing, of whatever kind, is a why of a deed."""
    check_deed(book, deed)
    words = all_standing(book, d, k)
    deeds = {entry[NUMBER]: entry for entry in deed_entries(book)}
    return is_why(deeds, words, open_acts(book, d, k), deed, thing)
