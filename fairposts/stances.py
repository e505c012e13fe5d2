"""Stances: how a bench stands at one time, and what comes of it by a deed.

A STANCE is (web, thing, hold, numbers). The thing is what the web lets be at
its posts left, kept beside it so that a deed goes on from the one ahead of it.
Each deed tells (stance, answer), or refuses.
"""

from fairposts.errors import BadGadget, BadNumber, BadPost, TooMany
from fairposts.exchanges import exchanged
from fairposts.gadgets import is_gadget, made, width
from fairposts.holds import mended, read
from fairposts.rounds import is_round, is_whole
from fairposts.things import Thing
from fairposts.ties import beside, tied
from fairposts.webs import GADGETS, WIDEST, left, wide


def first_stance(p):
    """Return the stance without gadgets and posts; refuse with BadThing where p (anything) is no prime."""
    return ((p, (), ()), Thing(p, ()), (), ())


def stand_of(stance):
    """Return the stand read of the held numbers."""
    web, thing, hold, numbers = stance
    return read(thing, hold, numbers)


def settled(web, thing, hold, numbers):
    """Return (the stance with hold mended, the posts at which mending exchanged)."""
    found, places = mended(thing, hold)
    names = left(web)
    kept = tuple(0 if place in places else number for place, number in enumerate(numbers))
    return ((web, thing, found, kept), tuple(names[place] for place in places))


def with_gadget(stance, gadget):
    """Put a gadget (anything); the answer is the new posts' numbers."""
    web, thing, hold, numbers = stance
    p, gadgets, ties = web
    if not is_gadget(p, gadget):
        raise BadGadget()
    first, many = wide(gadgets), width(gadget)
    if len(gadgets) + 1 > GADGETS:
        raise TooMany(GADGETS)
    if first + many > WIDEST:
        raise TooMany(WIDEST)
    # This refuses more posts than may be left.
    more = beside(thing, made(p, gadget))
    noughts = (0,) * many
    found = settled((p, (*gadgets, gadget), ties), more, hold + noughts, numbers + noughts)
    return (found[0], tuple(range(first, first + many)))


def places_of(web, posts):
    """Return the places of posts (anything) among those left; refuse with BadPost what is none, or told twice."""
    names = left(web)
    found = []
    for post in posts:
        if not is_whole(post) or post not in names or names.index(post) in found:
            raise BadPost(post)
        found.append(names.index(post))
    return found


def with_tie(stance, word, posts):
    """Tie posts (anything) by a word; the answer is the posts at which mending exchanged."""
    web, thing, hold, numbers = stance
    places = places_of(web, posts)
    p, gadgets, ties = web
    rising = sorted(posts)
    more = (p, gadgets, (*ties, (word, *rising)))
    stay = [place for place in range(len(hold)) if place not in places]
    sides = tuple(hold[place] for place in stay)
    return settled(more, tied(thing, (word, *places)), sides, tuple(numbers[place] for place in stay))


def with_exchange(stance, posts):
    """Exchange one post or two (anything); what was read there is held then."""
    web, thing, hold, numbers = stance
    found = exchanged(thing, hold, places_of(web, posts))
    kept = tuple(pair[side] for side, pair in zip(found, stand_of(stance)))
    return ((web, thing, found, kept), None)


def with_number(stance, post, number):
    """Hold number (anything) at post (anything)."""
    web, thing, hold, numbers = stance
    place = places_of(web, [post])[0]
    if not is_round(web[0], number):
        raise BadNumber(number)
    return ((web, thing, hold, (*numbers[:place], number, *numbers[place + 1:])), None)


def read_at(stance, post):
    """Return the stand's number on the side that is read at post (anything)."""
    web, thing, hold, numbers = stance
    place = places_of(web, [post])[0]
    return stand_of(stance)[place][1 - hold[place]]
