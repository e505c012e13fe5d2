"""Beats: a thing whose read numbers are held along wires in the next beat.

As sums come to sums and multiples to multiples, a number of beats is reckoned
with as its RULE: for each post the held numbers that come of 1 held there
alone, behind so many beats.
"""

from fairposts.errors import TooMany
from fairposts.holds import read

ROUNDS = 3000


def stepped(thing, hold, wires, numbers):
    """Return the held numbers behind one beat."""
    row = read(thing, hold, numbers)
    return tuple(mine if wire is None else row[wire][1 - hold[wire]] for mine, wire in zip(numbers, wires))


def units(many):
    """Return for each of so many posts the held numbers that have 1 there alone."""
    return [tuple(1 if other == post else 0 for other in range(many)) for post in range(many)]


def moved(p, rule, numbers):
    """Return what comes of held numbers by a rule."""
    return tuple(sum([number * row[post] for number, row in zip(numbers, rule)]) % p for post in range(len(numbers)))


def rule_of(thing, hold, wires):
    """Return the rule of one beat."""
    return [stepped(thing, hold, wires, numbers) for numbers in units(len(hold))]


def far(thing, hold, wires, numbers, many):
    """Return the held numbers behind many beats."""
    p = thing.p()
    rule = rule_of(thing, hold, wires)
    while many > 0:
        if many % 2 == 1:
            numbers = moved(p, rule, numbers)
        rule = [moved(p, rule, row) for row in rule]
        many //= 2
    return numbers


def round_of(thing, hold, wires, numbers):
    """Return (tail, length) of the round that it comes to; refuse with TooMany beyond ROUNDS."""
    rule = rule_of(thing, hold, wires)
    seen = {}
    while numbers not in seen:
        if len(seen) >= ROUNDS:
            raise TooMany(ROUNDS)
        seen[numbers] = len(seen)
        numbers = moved(thing.p(), rule, numbers)
    return (seen[numbers], len(seen) - seen[numbers])
