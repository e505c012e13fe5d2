"""Gadgets: things that are told by a word and numbers."""

from fairposts.holds import is_hold
from fairposts.rounds import POSTS, is_round, is_whole
from fairposts.rows import placed
from fairposts.sides import is_table, rows_by_table
from fairposts.things import Thing


def spring(p, k):
    """Return the thing of one post whose answer is k times its push."""
    return Thing(p, (((1, k),),))


def lever(p, k):
    """Return the thing of two posts that hands k times the push on, and 0 less k times the answer back."""
    return Thing(p, (((1, 0), (k, 0)), ((0, -k % p), (0, 1))))


def knot(p, many):
    """Return the thing of so many posts whose pushes are alike and whose answers are 0 together."""
    others = [placed(many, {0: (0, 1), post: (0, p - 1)}) for post in range(1, many)]
    return Thing(p, (((1, 0),) * many, *others))


def ring(p, many):
    """Return the thing of so many posts whose pushes are 0 together and whose answers are alike."""
    others = [placed(many, {0: (1, 0), post: (p - 1, 0)}) for post in range(1, many)]
    return Thing(p, (((0, 1),) * many, *others))


def by_table(p, hold, table):
    """Return the thing by which hold stands with table."""
    return Thing(p, tuple(rows_by_table(p, hold, table)))


def is_table_gadget(p, thing):
    """Tell whether thing, a tuple of three, is a gadget by a table."""
    word, hold, table = thing
    if word != "table" or not isinstance(hold, tuple) or len(hold) > POSTS:
        return False
    return is_hold(len(hold), hold) and is_table(p, len(hold), table)


def is_gadget(p, thing):
    """Tell whether thing (anything) is a gadget round p."""
    if not isinstance(thing, tuple):
        return False
    if len(thing) == 3:
        return is_table_gadget(p, thing)
    if len(thing) != 2:
        return False
    word, number = thing
    if word == "spring" or word == "lever":
        return is_round(p, number)
    return (word == "knot" or word == "ring") and is_whole(number) and 2 <= number <= POSTS


def made(p, gadget):
    """Return the thing that gadget tells."""
    word = gadget[0]
    if word == "spring":
        return spring(p, gadget[1])
    if word == "lever":
        return lever(p, gadget[1])
    if word == "knot":
        return knot(p, gadget[1])
    if word == "ring":
        return ring(p, gadget[1])
    return by_table(p, gadget[1], gadget[2])


def width(gadget):
    """Return how many posts gadget has."""
    word = gadget[0]
    if word == "spring":
        return 1
    if word == "lever":
        return 2
    if word == "table":
        return len(gadget[1])
    return gadget[1]
