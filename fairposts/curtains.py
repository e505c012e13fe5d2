"""Curtains: things of which some stands alone are told, and what is sure of them."""

from fairposts.errors import BadThing, NotFair, TooMany
from fairposts.holds import is_its_table
from fairposts.rounds import POSTS, is_prime, is_round
from fairposts.rows import added, is_row, meet, nought, times
from fairposts.sides import is_nought_held, row_of_sides, side_leads, still_rows, table_of
from fairposts.spans import are_numbers, is_in, mirror, plain, shares, together
from fairposts.things import Thing

THINGS = 400


def many_fitting(p, free):
    """Return how many things fit where there are so many more posts than kept rows."""
    many, power = 1, 1
    for step in range(free):
        power *= p
        many *= power + 1
    return many


def leaning(p, posts, rows, more, others):
    """Return a list with a tuple of rows that span it for each thing that leans on a thing with the row more.

    The latter is spanned by rows, more and others; one that leans on it has rows and, for each of others, that row
    with a multiple of more added, but not more itself.
    """
    spans = [tuple(rows)]
    for row in others:
        spans = [(*span, added(p, row, times(p, number, more))) for span in spans for number in range(p)]
    found = []
    for span in spans:
        last = [row for row in mirror(p, posts, span) if meet(p, row, more) != 0][0]
        found.extend([(*span, added(p, last, times(p, number, more))) for number in range(p)])
    return found


def fitting(p, posts, rows):
    """Return a list with a tuple of rows that span it for each thing that fits kept rows, each thing once."""
    if len(rows) == posts:
        return [tuple(rows)]
    more = [row for row in mirror(p, posts, rows) if not is_in(p, posts, rows, row)][0]
    # A thing that fits has this row, or leans on just one that has it: what is
    # spanned by this row and by those of its rows that meet this one with 0.
    found = []
    for span in fitting(p, posts, [*rows, more]):
        found.append(span)
        found.extend(leaning(p, posts, rows, more, span[len(rows) + 1:]))
    return found


def open_rows(p, hold, rows):
    """Return (rows, others) of a paper that hold is open by kept rows, fewer than posts, that make no still hand."""
    posts = list(range(len(hold)))
    leads = side_leads(p, hold, rows)
    free = [post for post in posts if post not in leads]
    # A table that has what the leads tell, and 0 for any two free posts: of
    # each free post the row with 1 held there and 0 held at all others.
    more = []
    for post in free:
        told = [leads[other][len(hold) + post] if other in leads else 0 for other in posts]
        more.append(row_of_sides(p, hold, [1 if other == post else 0 for other in posts], told))
    # A still hand that meets all these with 0, but for the first free post's.
    told = [-leads[other][free[0]] % p if other in leads else 0 for other in posts]
    told[free[0]] = 1
    hand = row_of_sides(p, hold, (0,) * len(hold), told)
    return ((*rows, *more), (*rows, hand, *more[1:]))


def judged_paper(p, hold, rows):
    """Return a paper of a judged hold of kept rows."""
    hands = still_rows(p, hold, rows)
    if hands:
        return ("still", shares(p, rows, hands[0]))
    if len(rows) == len(hold):
        return ("table", table_of(p, hold, rows))
    spans, others = open_rows(p, hold, rows)
    return ("open", spans, others)


def spans_fitting(p, posts, rows, thing):
    """Tell whether thing (anything) is a tuple of as many rows as posts that span a thing that fits rows."""
    if not isinstance(thing, tuple) or len(thing) != posts:
        return False
    try:
        found = Thing(p, thing)
    except BadThing:
        return False
    return found.posts() == posts and all([found.has(row) for row in rows])


def is_open(p, posts, rows, hold, spans, others):
    """Tell whether spans and others (anything) show that hold is open."""
    if not spans_fitting(p, posts, rows, spans) or not spans_fitting(p, posts, rows, others):
        return False
    return table_of(p, hold, spans) is not None and table_of(p, hold, others) is None


def makes_still_hand(p, posts, rows, hold, numbers):
    """Tell whether numbers (anything) are some by which rows make a still hand of hold."""
    if not are_numbers(p, len(rows), numbers):
        return False
    hand = together(p, posts, numbers, rows)
    return hand != nought(posts) and is_nought_held(hold, hand)


def judged_holds(p, posts, rows, hold, paper):
    """Tell whether paper (anything) is a paper of a judged hold of kept rows."""
    if not isinstance(paper, tuple):
        return False
    if len(paper) == 3:
        return paper[0] == "open" and is_open(p, posts, rows, hold, paper[1], paper[2])
    if len(paper) != 2:
        return False
    word, shown = paper
    if word == "still":
        return makes_still_hand(p, posts, rows, hold, shown)
    return word == "table" and len(rows) == posts and is_its_table(Thing(p, rows), hold, shown)


class Curtain:
    """A curtain round p before a thing with so many posts."""

    def __init__(self, p, posts):
        if not is_prime(p):
            raise BadThing(("p",))
        if not is_round(POSTS + 1, posts):
            raise BadThing(("posts",))
        self.prime = p
        self.wide = posts
        self.known = []
        # The plain rows of what is known, by which curtains are equal.
        self.lot = []

    def tell(self, row):
        """Tell a stand (anything); return True where it is kept, False where it is one already."""
        if not is_row(self.prime, self.wide, row):
            raise BadThing(("row",))
        for number, other in enumerate(self.known):
            if meet(self.prime, other, row) != 0:
                raise NotFair(number)
        found = plain(self.prime, self.wide, [*self.known, row])
        if len(found) == len(self.known):
            return False
        self.known.append(row)
        self.lot = found
        return True

    def kept(self):
        """Return a tuple of the kept rows, in the order told."""
        return tuple(self.known)

    def many(self):
        """Return how many things fit."""
        return many_fitting(self.prime, self.wide - len(self.known))

    def fits(self, thing):
        """Tell whether thing fits."""
        if thing.p() != self.prime or thing.posts() != self.wide:
            return False
        return all([thing.has(row) for row in self.known])

    def judged(self, hold):
        """Return a paper of hold: no thing that fits lets it stand, the one that does, or some do and some don't."""
        return judged_paper(self.prime, hold, self.known)

    def things(self):
        """Return a new list of all things that fit, in the order of their told forms; refuse beyond THINGS."""
        if self.many() > THINGS:
            raise TooMany(THINGS)
        found = [Thing(self.prime, span) for span in fitting(self.prime, self.wide, self.known)]
        return sorted(found, key=lambda thing: thing.told())

    def __eq__(self, other):
        return (isinstance(other, Curtain) and self.prime == other.prime
                and self.wide == other.wide and self.lot == other.lot)

    def __len__(self):
        return len(self.known)
