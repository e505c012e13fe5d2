"""Exchanges: hands that take the other side, at one post or at two at once."""

from fairposts.errors import Still
from fairposts.holds import stands, still_hands
from fairposts.rounds import is_round
from fairposts.sides import other_sides, rows_by_table, table_of


def exchanged(thing, hold, posts):
    """Return hold exchanged at posts; refuse with Still where the new hold doesn't stand."""
    found = other_sides(hold, posts)
    hands = still_hands(thing, found)
    if hands:
        raise Still(hands[0])
    return found


def turned(p, hold, table, posts):
    """Return (hold, table) behind an exchange at posts, None where the new hold doesn't stand."""
    found = other_sides(hold, posts)
    shown = table_of(p, found, rows_by_table(p, hold, table))
    return None if shown is None else (found, shown)


def can_turn(p, table, posts):
    """Tell whether the hold behind an exchange at posts stands, by its table."""
    # What is read at the exchanged posts must tell what was held there: so the
    # table's numbers of these posts alone may not tell two of them as one.
    first, last = posts[0], posts[-1]
    if first == last:
        return table[first][first] != 0
    return (table[first][first] * table[last][last] - table[first][last] * table[last][first]) % p != 0


def exchanges_of(posts):
    """Return a list of all exchanges at one of posts, then of all at two, in the order of tuples."""
    alone = [(post,) for post in posts]
    return alone + [(one, other) for one in posts for other in posts if one < other]


def differing(one, other):
    """Return a list of the posts in which two holds differ, rising."""
    return [post for post in range(len(one)) if one[post] != other[post]]


def way(thing, one, other):
    """Return the told way from a hold that stands to another one that does."""
    p = thing.p()
    hold, shown = one, table_of(p, one, thing.rows())
    found = []
    while hold != other:
        able = [posts for posts in exchanges_of(differing(hold, other)) if can_turn(p, shown, posts)]
        hold, shown = turned(p, hold, shown, able[0])
        found.append(able[0])
    return tuple(found)


def is_exchange(posts, thing):
    """Tell whether thing (anything) is a tuple of one post or of two, rising, of so many posts."""
    if not isinstance(thing, tuple) or not all([is_round(posts, post) for post in thing]):
        return False
    return len(thing) == 1 or (len(thing) == 2 and thing[0] < thing[1])


def way_holds(thing, one, other, paper):
    """Tell whether paper (anything) is a way from a hold that stands to another one that does."""
    if not isinstance(paper, tuple) or not all([is_exchange(len(one), posts) for posts in paper]):
        return False
    if sorted([post for posts in paper for post in posts]) != differing(one, other):
        return False
    hold = one
    for posts in paper:
        hold = other_sides(hold, posts)
        if not stands(thing, hold):
            return False
    return True
