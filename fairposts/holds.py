"""Holds: which side of each post is held, and what is then read."""

from fairposts.errors import Still
from fairposts.rows import is_row, nought
from fairposts.sides import (
    is_nought_held, is_square, other_sides, posts_to_mend, rows_by_table, standing_holds, still_rows, table_of,
)
from fairposts.spans import are_numbers, together


def is_hold(posts, thing):
    """Tell whether thing (anything) is a hold of so many posts."""
    return are_numbers(2, posts, thing)


def stands(thing, hold):
    """Tell whether hold stands."""
    return table_of(thing.p(), hold, thing.rows()) is not None


def still_hands(thing, hold):
    """Return a new list of the plain rows of the still ones of hold."""
    return still_rows(thing.p(), hold, thing.rows())


def table(thing, hold):
    """Return the table of hold; refuse with Still where it doesn't stand."""
    found = table_of(thing.p(), hold, thing.rows())
    if found is None:
        raise Still(still_hands(thing, hold)[0])
    return found


def read(thing, hold, numbers):
    """Return the stand that has numbers at the held sides; refuse with Still where hold doesn't stand."""
    rows = rows_by_table(thing.p(), hold, table(thing, hold))
    return together(thing.p(), len(hold), numbers, rows)


def hold_paper(thing, hold):
    """Return a paper that hold stands, or that it doesn't."""
    found = table_of(thing.p(), hold, thing.rows())
    if found is None:
        return ("still", still_hands(thing, hold)[0])
    return ("table", found)


def is_its_table(thing, hold, shown):
    """Tell whether shown (anything) is the table of hold."""
    if not is_square(thing.p(), thing.posts(), shown):
        return False
    # As many stands as posts, with just one 1 held each, span the thing: so
    # the hold stands, and these are the stands that its table is told of.
    return all([thing.has(row) for row in rows_by_table(thing.p(), hold, shown)])


def is_still_hand(thing, hold, shown):
    """Tell whether shown (anything) is a still hand of hold."""
    if not is_row(thing.p(), thing.posts(), shown) or shown == nought(thing.posts()):
        return False
    return is_nought_held(hold, shown) and thing.has(shown)


def paper_holds(thing, hold, paper):
    """Tell whether paper (anything) is a paper of hold."""
    if not isinstance(paper, tuple) or len(paper) != 2:
        return False
    word, shown = paper
    if word == "table":
        return is_its_table(thing, hold, shown)
    return word == "still" and is_still_hand(thing, hold, shown)


def mended(thing, hold):
    """Return (the hold that mending comes to, the posts exchanged, in order)."""
    posts = posts_to_mend(thing.p(), hold, thing.rows())
    return (other_sides(hold, posts), posts)


def all_holds(thing):
    """Return a new list of the holds that stand, in the order of tuples."""
    return standing_holds(thing.p(), thing.rows())
