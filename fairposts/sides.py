"""Sides: the rows that span a thing, looked at by a hold.

Here a row is reckoned with as its numbers at the held sides, post by post,
followed by its told read sides: so clearing places finds at once whether the
held sides tell all, and then the table, or else what they leave free.
"""

from fairposts.rounds import inverse
from fairposts.rows import added, times
from fairposts.spans import are_numbers, first_place, flat_of, leads_of, plain


def is_square(p, many, thing):
    """Tell whether thing (anything) is a tuple of so many tuples of as many numbers round p."""
    return isinstance(thing, tuple) and len(thing) == many and all([are_numbers(p, many, row) for row in thing])


def is_table(p, many, thing):
    """Tell whether thing (anything) is a table of so many posts, its own mirror."""
    return is_square(p, many, thing) and thing == tuple(zip(*thing))


def is_nought_held(hold, row):
    """Tell whether the held sides of row are all 0."""
    return all([pair[side] == 0 for side, pair in zip(hold, row)])


def sided(p, hold, row):
    """Return the numbers of row at the held sides, then its told read sides."""
    held = [pair[side] for side, pair in zip(hold, row)]
    told = [answer if side == 0 else -push % p for side, (push, answer) in zip(hold, row)]
    return held + told


def row_of_sides(p, hold, held, told):
    """Return the row that has held at the held sides and told as its told read sides."""
    return tuple((mine, its) if side == 0 else (-its % p, mine) for side, mine, its in zip(hold, held, told))


def side_leads(p, hold, rows):
    """Return the leads of what rows span, by the held sides, then by the told read sides."""
    return leads_of(p, [sided(p, hold, row) for row in rows])


def table_of(p, hold, rows):
    """Return the hold's table by the thing that rows span, None where the hold doesn't stand."""
    posts = len(hold)
    leads = side_leads(p, hold, rows)
    if any([place >= posts for place in leads]):
        return None
    # As many leads as posts, each with its 1 at one held side: these are the
    # stands that have 1 held at one post and 0 at all others.
    return tuple(tuple(leads[post][posts:]) for post in range(posts))


def rows_by_table(p, hold, table):
    """Return for each post the row with 1 held there, 0 held at all others, and the table's told read sides."""
    posts = len(hold)
    units = [[1 if other == post else 0 for other in range(posts)] for post in range(posts)]
    return [row_of_sides(p, hold, held, told) for held, told in zip(units, table)]


def still_rows(p, hold, rows):
    """Return a new list of the plain rows of the still ones of hold by what rows span."""
    posts = len(hold)
    leads = side_leads(p, hold, rows)
    found = [leads[place] for place in leads if place >= posts]
    return plain(p, posts, [row_of_sides(p, hold, flat[:posts], flat[posts:]) for flat in found])


def posts_to_mend(p, hold, rows):
    """Return the posts at which mending exchanges hold, by the thing that rows span, in that order."""
    # Behind an exchange the still ones left are those that have 0 at its post:
    # what the other plain rows span. So each plain row tells one exchange.
    return tuple(first_place(flat_of(row)) // 2 for row in still_rows(p, hold, rows))


def other_sides(hold, posts):
    """Return the hold that takes the other side at the posts told."""
    return tuple(1 - side if post in posts else side for post, side in enumerate(hold))


def first_hold(p, posts, rows):
    """Return the first hold, by the order of tuples, that stands by the thing that rows span."""
    # All pushes held and mended, but from the last post down: at each post that
    # is exchanged a still hand has 0 behind it and where others are exchanged,
    # so that no hold that is alike ahead of that post and has 0 there stands.
    hold = (0,) * posts
    found = posts_to_mend(p, hold, [row[::-1] for row in rows])
    return other_sides(hold, [posts - 1 - post for post in found])


def rest_behind(p, rows, side):
    """Return rows cleared at a side of the first post by one of them, which goes, and then without that post.

    None where all rows have 0 there.
    """
    found = [at for at, row in enumerate(rows) if row[0][side] != 0]
    if not found:
        return None
    used = rows[found[0]]
    scale = -inverse(p, used[0][side])
    others = [row for at, row in enumerate(rows) if at != found[0]]
    return [added(p, row, times(p, scale * row[0][side], used))[1:] for row in others]


def standing_holds(p, rows):
    """Return a new list of the holds, in the order of tuples, that stand by as many rows as posts."""
    # Post by post each held side must use up one row.
    if not rows:
        return [()]
    found = []
    for side in (0, 1):
        rest = rest_behind(p, rows, side)
        if rest is not None:
            found.extend([(side, *hold) for hold in standing_holds(p, rest)])
    return found
