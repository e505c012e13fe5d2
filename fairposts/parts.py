"""Parts: where a thing falls apart, and how many things there are."""

from fairposts.curtains import many_fitting
from fairposts.errors import NotApart
from fairposts.rows import part
from fairposts.things import Thing


def falls_apart(thing, posts):
    """Tell whether thing falls apart at posts, a rising tuple."""
    alone = [tuple(pair if post in posts else (0, 0) for post, pair in enumerate(row)) for row in thing.rows()]
    return all([thing.has(row) for row in alone])


def parts_of(thing):
    """Return the parts of thing, a tuple of rising tuples of posts, by their first posts."""
    p, hold, table = thing.told()
    found = []
    for post, numbers in enumerate(table):
        # What the post is tied to of the posts ahead of it comes to be one part.
        near = [group for group in found if any([numbers[other] != 0 for other in group])]
        found = [group for group in found if group not in near]
        found.append([other for group in near for other in group] + [post])
    return tuple(sorted([tuple(sorted(group)) for group in found]))


def part_of(thing, posts):
    """Return what thing lets be at posts, a rising tuple; refuse with NotApart where it doesn't fall apart there."""
    if not falls_apart(thing, posts):
        raise NotApart()
    return Thing(thing.p(), tuple(part(row, posts) for row in thing.rows()))


def things_with(p, posts):
    """Return how many things have so many posts."""
    return many_fitting(p, posts)


def tables_with(p, posts):
    """Return how many things with so many posts stand by a told hold."""
    many = 1
    for step in range(posts * (posts + 1) // 2):
        many *= p
    return many
