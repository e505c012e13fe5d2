"""What several tests need: odd things, made-up rows, and reckoning that does not use the package."""

import copy
import itertools
import random

PRIMES = (2, 3, 5, 7, 11, 13)


def dice(seed):
    """A source of made-up numbers that is the same in each run."""
    return random.Random(seed)


def nested(kind, depth):
    """A list or tuple within another, depth times: each holds the next one beside a 0."""
    inner = kind([0, 1])
    for _ in range(depth - 1):
        inner = kind([inner, 0])
    return inner


def endless(kind, many):
    """A list or tuple of so many, twenty deep: as all inner ones are one, only going through it takes for ever."""
    inner = kind([0] * many)
    for _ in range(19):
        inner = kind([inner] * many)
    return inner


def odd_things():
    """Things of all kinds that "anything" may be; none is a row, a paper or a number round p."""
    return [
        None, True, False, -1, -2, 13, 14, 17, 10 ** 59, -(10 ** 59), 10 ** 60 - 1,
        "", "0", "1", "2", "sum", "bar", "a" * 5000, "\n", "~ !", "(0, 0)",
        [], [0], [0, 1], [(0, 0)], [[0, 0]], ["sum", ()], ["bar", ((0, 0),)], [None] * 1000,
        (None,), (True,), (0,), (0, 1), (0, 1, 1), ("sum",), ("bar",), ("sum", (), ()), ("bar", 0, 0),
        ((),), ((0,),), ((0, 0, 0),), ([0, 0],), (("0", "0"),), ((None, 0),), ((0, None),), (0,) * 1000,
        ("sum", None), ("sum", []), ("sum", "x"), ("sum", 0), ("sum", {}), ("sum", True),
        ("bar", None), ("bar", []), ("bar", "xy"), ("bar", 0), ("bar", {}), ("bar", True),
        ("Sum", ()), ("sum ", ()), ("", ()), (None, ()), ([], ()), ({}, ()), (0, ()), (("sum",), ()),
        {}, {0: 1}, {"sum": ()}, {0: (0, 0)}, {(0, 0): (0, 0)},
        nested(list, 20), nested(tuple, 20), (nested(tuple, 19), "sum"), ("sum", nested(tuple, 19)),
        ("bar", nested(list, 19)), {"a": nested(list, 19)},
    ]


def any_row(source, p, posts):
    return tuple((source.randrange(p), source.randrange(p)) for _ in range(posts))


def any_rows(source, p, posts, many):
    return [any_row(source, p, posts) for _ in range(many)]


def all_rows(p, posts):
    """All rows of so many posts, in the order of tuples."""
    pairs = list(itertools.product(range(p), repeat=2))
    return [tuple(row) for row in itertools.product(pairs, repeat=posts)]


def flat(row):
    return [number for pair in row for number in pair]


def mixed(p, posts, numbers, rows):
    """The rows, each multiplied by its number, together."""
    total = [0] * (2 * posts)
    for number, row in zip(numbers, rows, strict=True):
        total = [(a + number * b) % p for a, b in zip(total, flat(row), strict=True)]
    return tuple(zip(total[::2], total[1::2]))


def met(p, one, other):
    """The meet, post by post."""
    total = 0
    for post in range(len(one)):
        total = total + one[post][0] * other[post][1]
        total = total - other[post][0] * one[post][1]
    return total % p


def lot(p, posts, rows):
    """The set of all sums of multiples of rows, gone through one by one."""
    found = {((0, 0),) * posts}
    for row in rows:
        if row not in found:
            found = {mixed(p, posts, (1, number), (one, row)) for one in found for number in range(p)}
    return found


def unalike(one, other):
    """Tell whether two values differ, or have truths and numbers in one another's places."""
    return repr(one) != repr(other)


def kept_as_is(test, asked, *told):
    """Ask, and see that nothing handed in was changed and that a second answer is alike."""
    ahead = copy.deepcopy(told)
    answer = asked(*told)
    test.assertFalse(unalike(ahead, told))
    test.assertFalse(unalike(answer, asked(*told)))
    return answer
