"""Ties: things put beside one another, and posts ordered, turned over, joined, stilled and freed."""

from fairposts.errors import BadPost, TooMany
from fairposts.rounds import POSTS, is_round
from fairposts.rows import nought, part, placed
from fairposts.spans import crossed, mirror
from fairposts.things import Thing


def beside(one, other):
    """Return the thing with the posts of one, then those of other; refuse with TooMany beyond POSTS."""
    if one.posts() + other.posts() > POSTS:
        raise TooMany(POSTS)
    first = [row + nought(other.posts()) for row in one.rows()]
    second = [nought(one.posts()) + row for row in other.rows()]
    return Thing(one.p(), (*first, *second))


def ordered(thing, order):
    """Return the thing whose post k is the one that order tells there."""
    return Thing(thing.p(), tuple(part(row, order) for row in thing.rows()))


def turned_over(thing):
    """Return the thing with (0 less the answer, push) in place of each pair."""
    return Thing(thing.p(), tuple(crossed(thing.p(), row) for row in thing.rows()))


def check_post(thing, post):
    """Refuse post (anything) where it is no post of thing."""
    if not is_round(thing.posts(), post):
        raise BadPost(post)


def tied(thing, gone, ties):
    """Return what thing lets be at the posts that are not gone, where ties, rows at those gone, span what may be there.

    What may be at the posts gone is, for each tie, its own mirror.
    """
    # So a stand keeps the tie just where it meets ties with 0, and the stands
    # that do are the mirror of the thing's rows and ties together.
    kept = mirror(thing.p(), thing.posts(), [*thing.rows(), *ties])
    left = [post for post in range(thing.posts()) if post not in gone]
    return Thing(thing.p(), tuple(part(row, left) for row in kept))


def joined(thing, one, other):
    """Return thing with two posts joined; refuse with BadPost what are no two posts of it."""
    check_post(thing, one)
    check_post(thing, other)
    if one == other:
        raise BadPost(other)
    p = thing.p()
    pushes = placed(thing.posts(), {one: (1, 0), other: (1, 0)})
    answers = placed(thing.posts(), {one: (0, 1), other: (0, p - 1)})
    return tied(thing, (one, other), [pushes, answers])


def stilled(thing, post):
    """Return thing with a post stilled; refuse with BadPost what is no post of it."""
    check_post(thing, post)
    return tied(thing, (post,), [placed(thing.posts(), {post: (0, 1)})])


def freed(thing, post):
    """Return thing with a post freed; refuse with BadPost what is no post of it."""
    check_post(thing, post)
    return tied(thing, (post,), [placed(thing.posts(), {post: (1, 0)})])
