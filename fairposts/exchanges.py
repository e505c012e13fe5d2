"""Exchanges: hands that take the other side, at one post or at two at once."""

from fairposts.errors import Still
from fairposts.holds import stands, still_hands
from fairposts.rounds import is_round
from fairposts.sides import other_sides, rows_by_table, table_of


def exchanged(thing, hold, posts):
    """Return hold exchanged at posts; refuse with Still where the new hold doesn't stand."""
    found = other_sides(hold, posts)
    hands = still_hands(thing, found)
    if hands:
        raise Still(hands[0])
    return found


def turned(p, hold, table, posts):
    """Return (hold, table) behind an exchange at posts, None where the new hold doesn't stand."""
    found = other_sides(hold, posts)
    shown = table_of(p, found, rows_by_table(p, hold, table))
    return None if shown is None else (found, shown)


def first_exchange(table, posts):
    """Return the first exchange, of one of posts or else of two, behind which the hold of table stands."""
    # One post can be exchanged where its own number isn't 0. Where no post can,
    # two can together where their number isn't 0, as their own ones are.
    alone = [(post,) for post in posts]
    both = [(one, other) for one in posts for other in posts if one < other]
    return [step for step in alone + both if table[step[0]][step[-1]] != 0][0]


def differing(one, other):
    """Return a list of the posts in which two holds differ, rising."""
    return [post for post in range(len(one)) if one[post] != other[post]]


def way(thing, one, other):
    """Return the told way from a hold that stands to another one that does."""
    p = thing.p()
    hold, shown = one, table_of(p, one, thing.rows())
    found = []
    while hold != other:
        found.append(first_exchange(shown, differing(hold, other)))
        hold, shown = turned(p, hold, shown, found[-1])
    return tuple(found)


def is_exchange(posts, thing):
    """Tell whether thing (anything) is a tuple of one post or of two, rising, of so many posts."""
    if not isinstance(thing, tuple) or not all([is_round(posts, post) for post in thing]):
        return False
    return len(thing) == 1 or (len(thing) == 2 and thing[0] < thing[1])


def way_holds(thing, one, other, paper):
    """Tell whether paper (anything) is a way from a hold that stands to another one that does."""
    if not isinstance(paper, tuple) or not all([is_exchange(len(one), posts) for posts in paper]):
        return False
    if sorted([post for posts in paper for post in posts]) != differing(one, other):
        return False
    hold = one
    for posts in paper:
        hold = other_sides(hold, posts)
        if not stands(thing, hold):
            return False
    return True
