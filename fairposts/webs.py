"""Webs: gadgets with all their posts numbered through, and ties between these posts.

The BONDS of a web are rows for all its posts: those of its gadgets, each with
noughts at all other posts, and those of its ties. As what each gadget and each
tie lets be is its own mirror, full are just the rows that meet all bonds with 0.
"""

from fairposts.errors import TooMany
from fairposts.gadgets import is_gadget, made, width
from fairposts.rounds import POSTS, is_prime, is_round
from fairposts.rows import is_row, meet, part, placed
from fairposts.spans import mirror, plain, shares, together
from fairposts.things import Thing
from fairposts.ties import tie_rows

GADGETS = 12
WIDEST = 20


def wide(gadgets):
    """Return how many posts gadgets have together."""
    return sum([width(gadget) for gadget in gadgets])


def gadgets_fault(p, gadgets):
    """Return the first fault of what should be the gadgets (anything) of a web, None where there is none."""
    if not isinstance(gadgets, tuple) or len(gadgets) > GADGETS:
        return ("gadgets",)
    for k, gadget in enumerate(gadgets):
        if not is_gadget(p, gadget):
            return ("gadget", k)
    return ("wide",) if wide(gadgets) > WIDEST else None


def is_tie(posts, thing):
    """Tell whether thing (anything) is a tie of so many posts."""
    if not isinstance(thing, tuple):
        return False
    if len(thing) == 3:
        word, one, other = thing
        return word == "join" and is_round(posts, one) and is_round(posts, other) and one < other
    return len(thing) == 2 and (thing[0] == "still" or thing[0] == "free") and is_round(posts, thing[1])


def ties_fault(posts, ties):
    """Return the first fault of what should be the ties (anything) of so many posts, None where there is none."""
    if not isinstance(ties, tuple):
        return ("ties",)
    taken = []
    for k, tie in enumerate(ties):
        if not is_tie(posts, tie) or any([post in taken for post in tie[1:]]):
            return ("tie", k)
        taken.extend(tie[1:])
    return ("left",) if posts - len(taken) > POSTS else None


def web_fault(thing):
    """Return None where thing (anything) is a web, else its first fault."""
    if not isinstance(thing, tuple) or len(thing) != 3:
        return ("web",)
    p, gadgets, ties = thing
    if not is_prime(p):
        return ("p",)
    found = gadgets_fault(p, gadgets)
    return ties_fault(wide(gadgets), ties) if found is None else found


def left(web):
    """Return a tuple of the numbers of the posts that stand in no tie."""
    p, gadgets, ties = web
    taken = [post for tie in ties for post in tie[1:]]
    return tuple(post for post in range(wide(gadgets)) if post not in taken)


def posts_by_gadget(gadgets):
    """Return a list with a list of its posts' numbers for each of gadgets."""
    found = []
    for k, gadget in enumerate(gadgets):
        first = wide(gadgets[:k])
        found.append(list(range(first, first + width(gadget))))
    return found


def bonds(web):
    """Return a list of the bonds of web."""
    p, gadgets, ties = web
    posts = wide(gadgets)
    found = []
    for gadget, its in zip(gadgets, posts_by_gadget(gadgets)):
        found.extend([placed(posts, dict(zip(its, row))) for row in made(p, gadget).rows()])
    for tie in ties:
        found.extend(tie_rows(p, posts, tie))
    return found


def full_rows(web):
    """Return a list of rows that span all full rows of web."""
    return mirror(web[0], wide(web[1]), bonds(web))


def thing_of(web):
    """Return the thing that web lets be at its posts left."""
    names = left(web)
    return Thing(web[0], tuple(part(full, names) for full in full_rows(web)))


def are_full(web, things):
    """Tell whether each of things (anything) is a full row of web."""
    p, posts, rows = web[0], wide(web[1]), bonds(web)
    if not all([is_row(p, posts, thing) for thing in things]):
        return False
    return all([meet(p, row, thing) == 0 for thing in things for row in rows])


def is_full(web, thing):
    """Tell whether thing (anything) is a full row of web."""
    return are_full(web, [thing])


def paper_by(web, fulls, row):
    """Return a paper of letting of web and row, made of fulls, which span all full rows."""
    p, names = web[0], left(web)
    parts = [part(full, names) for full in fulls]
    bars = [full for full, its in zip(fulls, parts) if meet(p, its, row) != 0]
    if bars:
        return ("bar", bars[0])
    # The parts span a thing, so what meets them all with 0 is made of them.
    return ("let", together(p, wide(web[1]), shares(p, parts, row), fulls))


def let_paper(web, row):
    """Return a paper that web lets row be at its posts left, or that it doesn't."""
    return paper_by(web, full_rows(web), row)


def let_holds(web, row, paper):
    """Tell whether paper (anything) is a paper of letting of web and row."""
    if not isinstance(paper, tuple) or len(paper) != 2 or not is_full(web, paper[1]):
        return False
    word, full = paper
    its = part(full, left(web))
    return (word == "let" and its == row) or (word == "bar" and meet(web[0], its, row) != 0)


def webs_paper(one, other):
    """Return a paper that two webs are alike, or that they are not."""
    rows = thing_of(one).rows()
    mine, its = full_rows(one), full_rows(other)
    fulls = [paper_by(one, mine, row)[1] for row in rows]
    papers = [paper_by(other, its, row) for row in rows]
    # Both have as many free numbers: where one's rows are all let be, none is more.
    for row, full, paper in zip(rows, fulls, papers):
        if paper[0] == "bar":
            return ("apart", 0, row, full, paper[1])
    return ("alike", tuple(fulls), tuple(paper[1] for paper in papers))


def are_alike(one, other, fulls, others):
    """Tell whether fulls and others (anything) show that two webs are alike."""
    if not isinstance(fulls, tuple) or not isinstance(others, tuple):
        return False
    names = left(one)
    if len(fulls) != len(names) or not are_full(one, fulls) or not are_full(other, others):
        return False
    parts = [part(full, names) for full in fulls]
    if parts != [part(full, left(other)) for full in others]:
        return False
    return len(plain(one[0], len(names), parts)) == len(names)


def are_apart(webs, number, row, full, bar):
    """Tell whether row (anything) is let be by full by the web of this number, but by bar not by the other."""
    if not is_round(2, number) or not is_row(webs[0][0], len(left(webs[0])), row):
        return False
    return let_holds(webs[number], row, ("let", full)) and let_holds(webs[1 - number], row, ("bar", bar))


def webs_hold(one, other, paper):
    """Tell whether paper (anything) is a paper of two webs."""
    if not isinstance(paper, tuple):
        return False
    if len(paper) == 3:
        return paper[0] == "alike" and are_alike(one, other, paper[1], paper[2])
    if len(paper) != 5:
        return False
    word, number, row, full, bar = paper
    return word == "apart" and are_apart((one, other), number, row, full, bar)


def renumbered(ties, numbers):
    """Return ties with the posts' new numbers, a dict, the lesser one of two first."""
    found = []
    for tie in ties:
        posts = sorted([numbers[post] for post in tie[1:]])
        found.append((tie[0], *posts))
    return tuple(found)


def numbers_of(posts):
    """Return a dict that tells for each of posts, a list, its number there."""
    return {post: number for number, post in enumerate(posts)}


def folded(web, numbers):
    """Return (web, order): web folded at the gadgets of these numbers; refuse with TooMany beyond POSTS."""
    p, gadgets, ties = web
    groups = posts_by_gadget(gadgets)
    inner = [post for k in numbers for post in groups[k]]
    gone = [tie for tie in ties if all([post in inner for post in tie[1:]])]
    folds = (p, tuple(gadgets[k] for k in numbers), renumbered(gone, numbers_of(inner)))
    names = [inner[place] for place in left(folds)]
    if len(names) > POSTS:
        raise TooMany(POSTS)
    p, hold, table = thing_of(folds).told()
    others = [k for k in range(len(gadgets)) if k not in numbers]
    stay = [gadgets[k] for k in others]
    # The posts' old numbers, by their new ones.
    olds = [post for k in others for post in groups[k]] + names
    kept = renumbered([tie for tie in ties if tie not in gone], numbers_of(olds))
    found = (p, (*stay, ("table", hold, table)), kept)
    return (found, tuple(left(web).index(olds[post]) for post in left(found)))
