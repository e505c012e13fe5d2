"""Ties: things put beside one another, and posts ordered, turned over, joined, stilled and freed."""

from fairposts.errors import BadPost, TooMany
from fairposts.rounds import POSTS, is_round
from fairposts.rows import nought, part, placed
from fairposts.spans import crossed, mirror
from fairposts.things import Thing


def beside(one, other):
    """Return the thing with the posts of one, then those of other; refuse with TooMany beyond POSTS."""
    if one.posts() + other.posts() > POSTS:
        raise TooMany(POSTS)
    first = [row + nought(other.posts()) for row in one.rows()]
    second = [nought(one.posts()) + row for row in other.rows()]
    return Thing(one.p(), (*first, *second))


def ordered(thing, order):
    """Return the thing whose post k is the one that order tells there."""
    return Thing(thing.p(), tuple(part(row, order) for row in thing.rows()))


def turned_over(thing):
    """Return the thing with (0 less the answer, push) in place of each pair."""
    return Thing(thing.p(), tuple(crossed(thing.p(), row) for row in thing.rows()))


def check_post(thing, post):
    """Refuse post (anything) where it is no post of thing."""
    if not is_round(thing.posts(), post):
        raise BadPost(post)


def tie_rows(p, posts, tie):
    """Return a list of rows that span what tie lets be at its own posts, with noughts at all others.

    That is, at its own posts, its own mirror: a row keeps the tie just where it meets these with 0.
    """
    word, post = tie[0], tie[1]
    if word == "still":
        return [placed(posts, {post: (0, 1)})]
    if word == "free":
        return [placed(posts, {post: (1, 0)})]
    other = tie[2]
    return [placed(posts, {post: (1, 0), other: (1, 0)}), placed(posts, {post: (0, 1), other: (0, p - 1)})]


def tied(thing, tie):
    """Return what thing lets be by tie at the posts that are left."""
    p, posts = thing.p(), thing.posts()
    kept = mirror(p, posts, [*thing.rows(), *tie_rows(p, posts, tie)])
    names = [post for post in range(posts) if post not in tie[1:]]
    return Thing(p, tuple(part(row, names) for row in kept))


def joined(thing, one, other):
    """Return thing with two posts joined; refuse with BadPost what are no two posts of it."""
    check_post(thing, one)
    check_post(thing, other)
    if one == other:
        raise BadPost(other)
    return tied(thing, ("join", one, other))


def stilled(thing, post):
    """Return thing with a post stilled; refuse with BadPost what is no post of it."""
    check_post(thing, post)
    return tied(thing, ("still", post))


def freed(thing, post):
    """Return thing with a post freed; refuse with BadPost what is no post of it."""
    check_post(thing, post)
    return tied(thing, ("free", post))
