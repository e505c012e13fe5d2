"""What several tests need: odd things, made-up rows, and reckoning that does not use the package."""

import copy
import functools
import itertools
import random
import unittest

from fairposts.things import Thing

PRIMES = (2, 3, 5, 7, 11, 13)


def dice(seed):
    """A source of made-up numbers that is the same in each run."""
    return random.Random(seed)


def nested(kind, depth):
    """A list or tuple within another, depth times: each holds the next one beside a 0."""
    inner = kind([0, 1])
    for _ in range(depth - 1):
        inner = kind([inner, 0])
    return inner


def endless(kind, many):
    """A list or tuple of so many, twenty deep: as all inner ones are one, only going through it takes for ever."""
    inner = kind([0] * many)
    for _ in range(19):
        inner = kind([inner] * many)
    return inner


def odd_things():
    """Things of all kinds that "anything" may be; none is a row, a paper or a number round p."""
    return [
        None, True, False, -1, -2, 13, 14, 17, 10 ** 59, -(10 ** 59), 10 ** 60 - 1,
        "", "0", "1", "2", "sum", "bar", "a" * 5000, "\n", "~ !", "(0, 0)",
        [], [0], [0, 1], [(0, 0)], [[0, 0]], ["sum", ()], ["bar", ((0, 0),)], [None] * 1000,
        (None,), (True,), (0,), (0, 1), (0, 1, 1), ("sum",), ("bar",), ("sum", (), ()), ("bar", 0, 0),
        ((),), ((0,),), ((0, 0, 0),), ([0, 0],), (("0", "0"),), ((None, 0),), ((0, None),), (0,) * 1000,
        ("sum", None), ("sum", []), ("sum", "x"), ("sum", 0), ("sum", {}), ("sum", True),
        ("bar", None), ("bar", []), ("bar", "xy"), ("bar", 0), ("bar", {}), ("bar", True),
        ("Sum", ()), ("sum ", ()), ("", ()), (None, ()), ([], ()), ({}, ()), (0, ()), (("sum",), ()),
        {}, {0: 1}, {"sum": ()}, {0: (0, 0)}, {(0, 0): (0, 0)},
        nested(list, 20), nested(tuple, 20), (nested(tuple, 19), "sum"), ("sum", nested(tuple, 19)),
        ("bar", nested(list, 19)), {"a": nested(list, 19)},
    ]


def any_row(source, p, posts):
    return tuple((source.randrange(p), source.randrange(p)) for _ in range(posts))


def any_rows(source, p, posts, many):
    return [any_row(source, p, posts) for _ in range(many)]


def all_rows(p, posts):
    """All rows of so many posts, in the order of tuples."""
    pairs = list(itertools.product(range(p), repeat=2))
    return [tuple(row) for row in itertools.product(pairs, repeat=posts)]


def flat(row):
    return [number for pair in row for number in pair]


def mixed(p, posts, numbers, rows):
    """The rows, each multiplied by its number, together."""
    total = [0] * (2 * posts)
    for number, row in zip(numbers, rows, strict=True):
        total = [(a + number * b) % p for a, b in zip(total, flat(row), strict=True)]
    return tuple(zip(total[::2], total[1::2]))


def met(p, one, other):
    """The meet, post by post."""
    total = 0
    for post in range(len(one)):
        total = total + one[post][0] * other[post][1]
        total = total - other[post][0] * one[post][1]
    return total % p


def lot(p, posts, rows):
    """The set of all sums of multiples of rows, gone through one by one."""
    found = {((0, 0),) * posts}
    for row in rows:
        if row not in found:
            found = {mixed(p, posts, (1, number), (one, row)) for one in found for number in range(p)}
    return found


def other_span(source, p, posts, rows):
    """Other rows that span the same lot: each step can be taken back."""
    found = list(rows)
    for _ in range(3 * len(found)):
        one, other = source.randrange(len(found)), source.randrange(len(found))
        if one == other:
            found[one] = mixed(p, posts, (source.randrange(1, p),), (found[one],))
        else:
            found[one] = mixed(p, posts, (1, source.randrange(p)), (found[one], found[other]))
    source.shuffle(found)
    return found + [((0, 0),) * posts] * source.randrange(2)


def first_of(row):
    return next(place for place, number in enumerate(flat(row)) if number)


def rank(p, lists):
    """How many of the lists of numbers are free of the others round p."""
    lists = [list(one) for one in lists]
    found = 0
    for place in range(len(lists[0]) if lists else 0):
        at = next((at for at in range(found, len(lists)) if lists[at][place] % p), None)
        if at is None:
            continue
        lists[found], lists[at] = lists[at], lists[found]
        for below in range(found + 1, len(lists)):
            scale = lists[below][place] * pow(lists[found][place], -1, p)
            lists[below] = [(a - scale * b) % p for a, b in zip(lists[below], lists[found])]
        found += 1
    return found


def table_rows(p, hold, table):
    """For each post the row that has 1 held there, 0 held at all others, and the table's read sides."""
    found = []
    for k in range(len(hold)):
        row = []
        for j, side in enumerate(hold):
            held, told = int(j == k), table[k][j]
            row.append(((p - told) % p if side else held, held if side else told))
        found.append(tuple(row))
    return found


def all_of(choices, many):
    """All tuples of so many of the choices, in the order of tuples."""
    return list(itertools.product(choices, repeat=many))


def all_tables(p, posts):
    """All tables of so many posts that are their own mirrors."""
    spots = [(k, j) for k in range(posts) for j in range(k + 1)]
    for numbers in all_of(range(p), len(spots)):
        told = dict(zip(spots, numbers))
        yield tuple(tuple(told[max(k, j), min(k, j)] for j in range(posts)) for k in range(posts))


def any_table(source, p, posts, full=True):
    """A made-up table; where it isn't full most of its numbers are 0."""
    found = [[0] * posts for _ in range(posts)]
    for k in range(posts):
        for j in range(k + 1):
            if full or source.randrange(4) == 0:
                found[k][j] = found[j][k] = source.randrange(p)
    return tuple(tuple(row) for row in found)


def any_hold(source, posts):
    return tuple(source.randrange(2) for _ in range(posts))


def any_thing_rows(source, p, posts):
    """Rows that span a made-up thing: each one is by some hold and table."""
    return table_rows(p, any_hold(source, posts), any_table(source, p, posts, source.randrange(2)))


@functools.cache
def all_thing_rows(p, posts):
    """Rows for each thing with so many posts, each thing once."""
    found = {}
    for hold in all_of((0, 1), posts):
        for table in all_tables(p, posts):
            rows = table_rows(p, hold, table)
            found.setdefault(frozenset(lot(p, posts, rows)), tuple(rows))
    return list(found.values())


def small_things(name, times=20):
    """(p, posts, rows) of all things of few posts round a small p, and of some more, all of few stands."""
    for p, posts in ((2, 0), (3, 0), (13, 0), (2, 1), (2, 2), (2, 3), (3, 1), (3, 2), (5, 1), (7, 1), (11, 1), (13, 1)):
        for rows in all_thing_rows(p, posts):
            yield p, posts, rows
    source = dice(name)
    for p, posts in ((2, 4), (2, 5), (3, 3), (3, 4), (5, 2), (5, 3), (7, 2), (11, 2), (13, 2)):
        for _ in range(times):
            yield p, posts, tuple(any_thing_rows(source, p, posts))


def thing_samples(name, times=3):
    """Rows that span things of 0 to 10 posts round each prime."""
    source = dice(name)
    for p in PRIMES:
        for posts in range(11):
            for _ in range(times):
                yield source, p, posts, any_thing_rows(source, p, posts)


def is_among(p, posts, plain, row):
    """Tell whether row is a sum of multiples of the plain rows: only their firsts can tell the numbers."""
    return mixed(p, posts, [flat(row)[first_of(one)] for one in plain], plain) == row


def one_otherwise(value):
    """All that comes of a value when one thing somewhere within it is put otherwise."""
    if isinstance(value, (tuple, list)):
        kind = type(value)
        yield list(value) if kind is tuple else tuple(value)
        yield kind([*value, 0])
        yield kind([*value, *value[-1:]])
        yield from (value[:at] + value[at + 1:] for at in range(len(value)))
        yield from (value[:at] + value[at:at + 1] + value[at:] for at in range(len(value)))
        for at, inner in enumerate(value):
            yield from (value[:at] + kind([other]) + value[at + 1:] for other in one_otherwise(inner))
    elif isinstance(value, int):
        yield from (value + 1, value - 1, -value, value + 2 ** 64, bool(value), not value, (value,), [value])
    else:
        yield from (value + "s", value[:-1], value.upper(), value + " ", (value,), [value], list(value))
    yield from (None, True, False, "", "0", (), [], {}, {0: value} if isinstance(value, (int, str)) else {0: 0})


def spelled(value):
    """A value written out: truths and numbers, lists and tuples are told apart, things by their lots alone."""
    if isinstance(value, Thing):
        return f"Thing({value.p()!r}, {value.rows()!r})"
    if isinstance(value, (tuple, list)):
        return f"{type(value).__name__}({', '.join([spelled(one) for one in value])})"
    if isinstance(value, dict):
        return f"dict({', '.join([spelled(pair) for pair in value.items()])})"
    return repr(value)


def unalike(one, other):
    """Tell whether two values differ, or have truths and numbers in one another's places."""
    return spelled(one) != spelled(other)


def kept_as_is(test, asked, *told):
    """Ask, and see that nothing handed in was changed and that a second answer is alike."""
    ahead = copy.deepcopy(told)
    answer = asked(*told)
    test.assertFalse(unalike(ahead, told))
    test.assertFalse(unalike(answer, asked(*told)))
    return answer


class Told(unittest.TestCase):
    def is_list_of_rows(self, told, p, posts):
        self.assertIs(type(told), list)
        for row in told:
            self.assertIs(type(row), tuple)
            self.assertEqual(len(row), posts)
            for pair in row:
                self.assertIs(type(pair), tuple)
                self.assertEqual(len(pair), 2)
                self.assertTrue(all(type(number) is int and 0 <= number < p for number in pair))

    def is_plain(self, told, p, posts):
        self.is_list_of_rows(told, p, posts)
        firsts = [first_of(row) for row in told]
        self.assertEqual(firsts, sorted(set(firsts)))
        for at, row in enumerate(told):
            self.assertEqual([flat(row)[first] for first in firsts], [int(k == at) for k in range(len(told))])

    def is_new_each_time(self, asked, *told):
        first = asked(*told)
        as_it_was = list(first)
        second = asked(*told)
        self.assertIsNot(first, second)
        first.append("more")
        first.reverse()
        self.assertEqual(second, as_it_was)
        self.assertEqual(asked(*told), as_it_was)
