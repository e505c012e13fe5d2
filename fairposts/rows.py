"""Rows: a pair (push, answer) of numbers round p for each post."""

from fairposts.rounds import is_round


def is_pair(p, thing):
    """Tell whether thing (anything) is a tuple of two numbers round p."""
    return isinstance(thing, tuple) and len(thing) == 2 and is_round(p, thing[0]) and is_round(p, thing[1])


def is_row(p, posts, thing):
    """Tell whether thing (anything) is a row of so many posts."""
    return isinstance(thing, tuple) and len(thing) == posts and all([is_pair(p, pair) for pair in thing])


def nought(posts):
    """Return the row of noughts."""
    return ((0, 0),) * posts


def placed(posts, pairs):
    """Return the row that has pairs, a dict by posts, and noughts at all other posts."""
    return tuple(pairs.get(post, (0, 0)) for post in range(posts))


def added(p, one, other):
    """Return the sum of two rows of as many posts."""
    return tuple(((a + c) % p, (b + d) % p) for (a, b), (c, d) in zip(one, other))


def times(p, number, row):
    """Return row multiplied by number."""
    return tuple((number * push % p, number * answer % p) for push, answer in row)


def meet(p, one, other):
    """Return the meet of two rows of as many posts."""
    return sum([a * d - c * b for (a, b), (c, d) in zip(one, other)]) % p


def part(row, posts):
    """Return the row of row's pairs at the posts told, in that order."""
    return tuple(row[post] for post in posts)
