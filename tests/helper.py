"""What several tests need: odd things, made-up rows, and reckoning that does not use the package."""

import copy
import functools
import itertools
import random
import unittest

from fairposts.benches import Bench
from fairposts.curtains import Curtain
from fairposts.errors import PostError
from fairposts.things import Thing

PRIMES = (2, 3, 5, 7, 11, 13)


def dice(seed):
    """A source of made-up numbers that is the same in each run."""
    return random.Random(seed)


def nested(kind, depth):
    """A list or tuple within another, depth times: each holds the next one beside a 0."""
    inner = kind([0, 1])
    for _ in range(depth - 1):
        inner = kind([inner, 0])
    return inner


def endless(kind, many):
    """A list or tuple of so many, twenty deep: as all inner ones are one, only going through it takes for ever."""
    inner = kind([0] * many)
    for _ in range(19):
        inner = kind([inner] * many)
    return inner


def odd_things():
    """Things of all kinds that "anything" may be; none is a row, a paper or a number round p."""
    return [
        None, True, False, -1, -2, 13, 14, 17, 10 ** 59, -(10 ** 59), 10 ** 60 - 1,
        "", "0", "1", "2", "sum", "bar", "a" * 5000, "\n", "~ !", "(0, 0)",
        [], [0], [0, 1], [(0, 0)], [[0, 0]], ["sum", ()], ["bar", ((0, 0),)], [None] * 1000,
        (None,), (True,), (0,), (0, 1), (0, 1, 1), ("sum",), ("bar",), ("sum", (), ()), ("bar", 0, 0),
        ((),), ((0,),), ((0, 0, 0),), ([0, 0],), (("0", "0"),), ((None, 0),), ((0, None),), (0,) * 1000,
        ("sum", None), ("sum", []), ("sum", "x"), ("sum", 0), ("sum", {}), ("sum", True),
        ("bar", None), ("bar", []), ("bar", "xy"), ("bar", 0), ("bar", {}), ("bar", True),
        ("Sum", ()), ("sum ", ()), ("", ()), (None, ()), ([], ()), ({}, ()), (0, ()), (("sum",), ()),
        {}, {0: 1}, {"sum": ()}, {0: (0, 0)}, {(0, 0): (0, 0)},
        nested(list, 20), nested(tuple, 20), (nested(tuple, 19), "sum"), ("sum", nested(tuple, 19)),
        ("bar", nested(list, 19)), {"a": nested(list, 19)},
    ]


def any_row(source, p, posts):
    return tuple((source.randrange(p), source.randrange(p)) for _ in range(posts))


def any_rows(source, p, posts, many):
    return [any_row(source, p, posts) for _ in range(many)]


def all_rows(p, posts):
    """All rows of so many posts, in the order of tuples."""
    pairs = list(itertools.product(range(p), repeat=2))
    return [tuple(row) for row in itertools.product(pairs, repeat=posts)]


def flat(row):
    return [number for pair in row for number in pair]


def mixed(p, posts, numbers, rows):
    """The rows, each multiplied by its number, together."""
    total = [0] * (2 * posts)
    for number, row in zip(numbers, rows, strict=True):
        total = [(a + number * b) % p for a, b in zip(total, flat(row), strict=True)]
    return tuple(zip(total[::2], total[1::2]))


def met(p, one, other):
    """The meet, post by post."""
    total = 0
    for post in range(len(one)):
        total = total + one[post][0] * other[post][1]
        total = total - other[post][0] * one[post][1]
    return total % p


def lot(p, posts, rows):
    """The set of all sums of multiples of rows, gone through one by one."""
    found = {((0, 0),) * posts}
    for row in rows:
        if row not in found:
            found = {mixed(p, posts, (1, number), (one, row)) for one in found for number in range(p)}
    return found


def other_span(source, p, posts, rows):
    """Other rows that span the same lot: each step can be taken back."""
    found = list(rows)
    for _ in range(3 * len(found)):
        one, other = source.randrange(len(found)), source.randrange(len(found))
        if one == other:
            found[one] = mixed(p, posts, (source.randrange(1, p),), (found[one],))
        else:
            found[one] = mixed(p, posts, (1, source.randrange(p)), (found[one], found[other]))
    source.shuffle(found)
    return found + [((0, 0),) * posts] * source.randrange(2)


def first_of(row):
    return next(place for place, number in enumerate(flat(row)) if number)


def rank(p, lists):
    """How many of the lists of numbers are free of the others round p."""
    lists = [list(one) for one in lists]
    found = 0
    for place in range(len(lists[0]) if lists else 0):
        at = next((at for at in range(found, len(lists)) if lists[at][place] % p), None)
        if at is None:
            continue
        lists[found], lists[at] = lists[at], lists[found]
        for below in range(found + 1, len(lists)):
            scale = lists[below][place] * pow(lists[found][place], -1, p)
            lists[below] = [(a - scale * b) % p for a, b in zip(lists[below], lists[found])]
        found += 1
    return found


def table_rows(p, hold, table):
    """For each post the row that has 1 held there, 0 held at all others, and the table's read sides."""
    found = []
    for k in range(len(hold)):
        row = []
        for j, side in enumerate(hold):
            held, told = int(j == k), table[k][j]
            row.append(((p - told) % p if side else held, held if side else told))
        found.append(tuple(row))
    return found


def all_of(choices, many):
    """All tuples of so many of the choices, in the order of tuples."""
    return list(itertools.product(choices, repeat=many))


def all_tables(p, posts):
    """All tables of so many posts that are their own mirrors."""
    spots = [(k, j) for k in range(posts) for j in range(k + 1)]
    for numbers in all_of(range(p), len(spots)):
        told = dict(zip(spots, numbers))
        yield tuple(tuple(told[max(k, j), min(k, j)] for j in range(posts)) for k in range(posts))


def any_table(source, p, posts, full=True):
    """A made-up table; where it isn't full most of its numbers are 0."""
    found = [[0] * posts for _ in range(posts)]
    for k in range(posts):
        for j in range(k + 1):
            if full or source.randrange(4) == 0:
                found[k][j] = found[j][k] = source.randrange(p)
    return tuple(tuple(row) for row in found)


def any_hold(source, posts):
    return tuple(source.randrange(2) for _ in range(posts))


def any_thing_rows(source, p, posts):
    """Rows that span a made-up thing: each one is by some hold and table."""
    return table_rows(p, any_hold(source, posts), any_table(source, p, posts, source.randrange(2)))


@functools.cache
def all_thing_rows(p, posts):
    """Rows for each thing with so many posts, each thing once."""
    found = {}
    for hold in all_of((0, 1), posts):
        for table in all_tables(p, posts):
            rows = table_rows(p, hold, table)
            found.setdefault(frozenset(lot(p, posts, rows)), tuple(rows))
    return list(found.values())


def small_things(name, times=20):
    """(p, posts, rows) of all things of few posts round a small p, and of some more, all of few stands."""
    for p, posts in ((2, 0), (3, 0), (13, 0), (2, 1), (2, 2), (2, 3), (3, 1), (3, 2), (5, 1), (7, 1), (11, 1), (13, 1)):
        for rows in all_thing_rows(p, posts):
            yield p, posts, rows
    source = dice(name)
    for p, posts in ((2, 4), (2, 5), (3, 3), (3, 4), (5, 2), (5, 3), (7, 2), (11, 2), (13, 2)):
        for _ in range(times):
            yield p, posts, tuple(any_thing_rows(source, p, posts))


def thing_samples(name, times=3):
    """Rows that span things of 0 to 10 posts round each prime."""
    source = dice(name)
    for p in PRIMES:
        for posts in range(11):
            for _ in range(times):
                yield source, p, posts, any_thing_rows(source, p, posts)


def is_among(p, posts, plain, row):
    """Tell whether row is a sum of multiples of the plain rows: only their firsts can tell the numbers."""
    return mixed(p, posts, [flat(row)[first_of(one)] for one in plain], plain) == row


def held(hold, row):
    return tuple(pair[side] for pair, side in zip(row, hold))


def still_set(hold, stands):
    """The still ones of a hold: its still hands and the row of noughts."""
    return {row for row in stands if not any(held(hold, row))}


def plain_of(stills):
    """The plain rows of a whole lot: each has a 1 first, where all others have 0."""
    firsts = sorted({first_of(row) for row in stills if any(map(any, row))})
    found = []
    for at, first in enumerate(firsts):
        wanted = [int(other == at) for other in range(len(firsts))]
        found += [row for row in stills if [sum(row, ())[place] for place in firsts] == wanted]
    return found


def table_by_the_words(p, hold, stands):
    """The table, as [17] has it: of the stands with one 1 held."""
    found = []
    for k in range(len(hold)):
        row = next(row for row in stands if held(hold, row) == tuple(int(j == k) for j in range(len(hold))))
        found.append(tuple((0 - row[j][0]) % p if side else row[j][1] for j, side in enumerate(hold)))
    return tuple(found)


def mended_by_the_words(hold, stands):
    """Mended step by step, as [19] has it."""
    hold, posts = list(hold), []
    while len(still_set(hold, stands)) > 1:
        least = min(post for row in still_set(hold, stands) for post in range(len(hold)) if row[post][1 - hold[post]])
        hold[least] = 1 - hold[least]
        posts.append(least)
    return tuple(hold), tuple(posts)


def stands_of(thing):
    return lot(thing.p(), thing.posts(), thing.rows())


def a_stand(source, thing):
    return mixed(thing.p(), thing.posts(), [source.randrange(thing.p()) for _ in thing.rows()], thing.rows())


def is_spring(p, k, row):
    return row[0][1] == k * row[0][0] % p


def is_lever(p, k, row):
    return row[1][0] == k * row[0][0] % p and row[0][1] == -k * row[1][1] % p


def is_knot(p, many, row):
    return len({push for push, answer in row}) == 1 and sum(answer for push, answer in row) % p == 0


def is_ring(p, many, row):
    return len({answer for push, answer in row}) == 1 and sum(push for push, answer in row) % p == 0


def is_by_table(p, hold, table, row):
    """Tell whether each told read side is what the table makes of the held ones, as [17] has it."""
    numbers = held(hold, row)
    for j, side in enumerate(hold):
        told = -row[j][0] if side else row[j][1]
        if (told - sum(table[k][j] * numbers[k] for k in range(len(hold)))) % p:
            return False
    return True


LAWS = {"spring": is_spring, "lever": is_lever, "knot": is_knot, "ring": is_ring, "table": is_by_table}


def is_gadget_by_the_words(p, thing):
    """Tell whether thing is a gadget round p, as [12] and [21] have it."""
    if type(thing) is not tuple or len(thing) not in (2, 3) or type(thing[0]) is not str:
        return False
    if len(thing) == 2:
        low, high = {"spring": (0, p - 1), "lever": (0, p - 1), "knot": (2, 10), "ring": (2, 10)}.get(thing[0], (1, 0))
        return type(thing[1]) is int and low <= thing[1] <= high
    word, hold, table = thing
    if word != "table" or type(hold) is not tuple or type(table) is not tuple or len(hold) > 10:
        return False
    if any(type(side) is not int or side not in (0, 1) for side in hold) or len(table) != len(hold):
        return False
    if any(type(row) is not tuple or len(row) != len(hold) for row in table):
        return False
    if any(type(number) is not int or not 0 <= number < p for row in table for number in row):
        return False
    return all(table[k][j] == table[j][k] for k in range(len(hold)) for j in range(k))


def posts_of_gadget(gadget):
    """How many posts a gadget has."""
    return {"spring": 1, "lever": 2, "table": len(gadget[1]) if gadget[0] == "table" else 0}.get(gadget[0], gadget[1])


def parts_of_web(web):
    """The posts of each of a web's gadgets, numbered through."""
    begin, found = 0, []
    for gadget in web[1]:
        found.append(list(range(begin, begin + posts_of_gadget(gadget))))
        begin += posts_of_gadget(gadget)
    return found


def left_by_the_words(web):
    """The posts that stand in no tie."""
    return tuple(post for its in parts_of_web(web) for post in its if all(post not in tie[1:] for tie in web[2]))


def keeps_tie(p, tie, row):
    """Tell whether a tie's condition [14] is kept by a row at all posts."""
    (push, answer), (other_push, other_answer) = row[tie[1]], row[tie[-1]]
    if tie[0] == "join":
        return push == other_push and (answer + other_answer) % p == 0
    return {"still": push, "free": answer}[tie[0]] == 0


def is_full_by_the_words(web, row):
    """Tell whether a row at all posts is full, as [27] has it."""
    p, gadgets, ties = web
    for gadget, its in zip(gadgets, parts_of_web(web)):
        if not LAWS[gadget[0]](p, *gadget[1:], tuple(row[post] for post in its)):
            return False
    return all(keeps_tie(p, tie, row) for tie in ties)


def tie_fault(posts, ties):
    """The first fault of ties, as the interface has it."""
    if type(ties) is not tuple:
        return ("ties",)
    taken = []
    for k, tie in enumerate(ties):
        if type(tie) is not tuple or len(tie) not in (2, 3) or type(tie[0]) is not str:
            return ("tie", k)
        if (tie[0], len(tie)) not in (("join", 3), ("still", 2), ("free", 2)):
            return ("tie", k)
        if any(type(post) is not int or post not in range(posts) or post in taken for post in tie[1:]):
            return ("tie", k)
        if tie[0] == "join" and tie[1] >= tie[2]:
            return ("tie", k)
        taken += tie[1:]
    return ("left",) if posts - len(taken) > 10 else None


def web_fault_by_the_words(thing):
    """The first fault of what should be a web, as the interface has it."""
    if type(thing) is not tuple or len(thing) != 3:
        return ("web",)
    p, gadgets, ties = thing
    if type(p) is not int or p not in PRIMES:
        return ("p",)
    if type(gadgets) is not tuple or len(gadgets) > 12:
        return ("gadgets",)
    for k, gadget in enumerate(gadgets):
        if not is_gadget_by_the_words(p, gadget):
            return ("gadget", k)
    if sum(map(posts_of_gadget, gadgets)) > 20:
        return ("wide",)
    return tie_fault(sum(map(posts_of_gadget, gadgets)), ties)


@functools.cache
def gadget_stands(p, gadget):
    """All stands of a gadget of few posts."""
    return [row for row in all_rows(p, posts_of_gadget(gadget)) if LAWS[gadget[0]](p, *gadget[1:], row)]


def full_set(web):
    """All full rows of a small web, gone through one by one."""
    p, gadgets, ties = web
    rows = (sum(parts, ()) for parts in itertools.product(*[gadget_stands(p, gadget) for gadget in gadgets]))
    return {row for row in rows if all(keeps_tie(p, tie, row) for tie in ties)}


def at_left(web, row):
    """The part of a row at all posts that stands at the posts left."""
    return tuple(row[post] for post in left_by_the_words(web))


def any_gadget(source, p, room, word=None):
    """A made-up gadget of at most so many posts."""
    widths = {"spring": (1, 1), "lever": (2, 2), "knot": (2, room), "ring": (2, room), "table": (0, room)}
    word = word or source.choice([word for word, (least, most) in widths.items() if least <= min(most, room)])
    if word in ("spring", "lever"):
        return (word, source.randrange(p))
    many = source.randint(*widths[word])
    if word == "table":
        return (word, any_hold(source, many), any_table(source, p, many, source.randrange(2)))
    return (word, many)


def any_ties(source, posts, least, most):
    """Made-up ties of so many posts, at least and at most so many of which are left, in any order."""
    free = source.sample(range(posts), posts)
    ties = []
    stop = source.randint(min(least, posts), min(most, posts))
    while len(free) > stop:
        if len(free) - stop > 1 and source.randrange(3):
            ties.append(("join", *sorted([free.pop(), free.pop()])))
        else:
            ties.append((source.choice(("still", "free")), free.pop()))
    return tuple(source.sample(ties, len(ties)))


def any_web(source, p, many, wide, most=10):
    """A made-up web of at most so many gadgets of at most so many posts, with at most so many left."""
    gadgets, room = [], wide
    for _ in range(many):
        gadgets.append(any_gadget(source, p, min(room, source.choice((1, 2, 3, 3, 10)))))
        room -= posts_of_gadget(gadgets[-1])
    return (p, tuple(gadgets), any_ties(source, wide - room, 0, most))


def small_webs(name, times=30):
    """(source, web) of webs whose full rows can be gone through one by one."""
    source = dice(name)
    for p, many, wide in ((2, 0, 0), (2, 3, 4), (2, 5, 7), (2, 7, 9), (3, 2, 3), (3, 4, 5), (3, 5, 6), (5, 2, 3),
                          (5, 3, 4), (7, 2, 2), (7, 3, 3), (11, 2, 2), (13, 2, 2)):
        for _ in range(times):
            room, gadgets = wide, []
            for _ in range(source.randint(0, many)):
                gadgets.append(any_gadget(source, p, min(room, 5 if p == 2 else 3 if p < 7 else 2)))
                room -= posts_of_gadget(gadgets[-1])
            yield source, (p, tuple(gadgets), any_ties(source, wide - room, 0, 10))


def web_samples(name, times=4):
    """(source, web) of webs of none to twelve gadgets, up to twenty posts, round each prime."""
    source = dice(name)
    for p in PRIMES:
        for many, wide in ((0, 0), (1, 10), (2, 6), (3, 9), (4, 12), (6, 16), (9, 20), (12, 20)):
            for _ in range(times):
                yield source, any_web(source, p, many, wide)


def drawn(source, values, many):
    """So many of the values, drawn; all where there are fewer."""
    values = list(values)
    return source.sample(values, min(many, len(values)))


def one_otherwise(value):
    """All that comes of a value when one thing somewhere within it is put otherwise."""
    if isinstance(value, (tuple, list)):
        kind = type(value)
        yield list(value) if kind is tuple else tuple(value)
        yield kind([*value, 0])
        yield kind([*value, *value[-1:]])
        yield from (value[:at] + value[at + 1:] for at in range(len(value)))
        yield from (value[:at] + value[at:at + 1] + value[at:] for at in range(len(value)))
        for at, inner in enumerate(value):
            yield from (value[:at] + kind([other]) + value[at + 1:] for other in one_otherwise(inner))
    elif isinstance(value, int):
        yield from (value + 1, value - 1, -value, value + 2 ** 64, bool(value), not value, (value,), [value])
    elif isinstance(value, str):
        yield from (value + "s", value[:-1], value.upper(), value + " ", (value,), [value], list(value))
    yield from (None, True, False, "", "0", (), [], {}, {0: value} if isinstance(value, (int, str)) else {0: 0})


def put_otherwise(source, value):
    """One made-up value among those that come when one thing somewhere within it is put otherwise."""
    if isinstance(value, (tuple, list)) and value and source.randrange(5):
        at = source.randrange(len(value))
        return value[:at] + type(value)([put_otherwise(source, value[at])]) + value[at + 1:]
    if isinstance(value, (tuple, list)):
        value = value[:4] if source.randrange(8) == 0 else value
        return source.choice([[*value], (*value,), value[:-1], value[1:], value + value[-1:], value[::-1], None, 0])
    return source.choice(list(one_otherwise(value)))


def spelled(value):
    """A value written out: truths and numbers, lists and tuples are told apart, things by their lots."""
    if isinstance(value, Thing):
        return f"Thing({value.p()!r}, {value.rows()!r})"
    if isinstance(value, (Bench, Curtain)):
        return f"{type(value).__name__}({spelled(vars(value))})"
    if isinstance(value, (tuple, list)):
        return f"{type(value).__name__}({', '.join([spelled(one) for one in value])})"
    if isinstance(value, dict):
        return f"dict({', '.join([spelled(pair) for pair in value.items()])})"
    return repr(value)


def unalike(one, other):
    """Tell whether two values differ, or have truths and numbers in one another's places."""
    return spelled(one) != spelled(other)


def kept_as_is(test, asked, *told):
    """Ask, and see that nothing handed in was changed and that a second answer is alike."""
    ahead = copy.deepcopy(told)
    answer = asked(*told)
    test.assertFalse(unalike(ahead, told))
    test.assertFalse(unalike(answer, asked(*told)))
    return answer


class Told(unittest.TestCase):
    def is_list_of_rows(self, told, p, posts):
        self.assertIs(type(told), list)
        for row in told:
            self.assertIs(type(row), tuple)
            self.assertEqual(len(row), posts)
            for pair in row:
                self.assertIs(type(pair), tuple)
                self.assertEqual(len(pair), 2)
                self.assertTrue(all(type(number) is int and 0 <= number < p for number in pair))

    def is_plain(self, told, p, posts):
        self.is_list_of_rows(told, p, posts)
        firsts = [first_of(row) for row in told]
        self.assertEqual(firsts, sorted(set(firsts)))
        for at, row in enumerate(told):
            self.assertEqual([flat(row)[first] for first in firsts], [int(k == at) for k in range(len(told))])

    def is_new_each_time(self, asked, *told):
        first = asked(*told)
        as_it_was = list(first)
        second = asked(*told)
        self.assertIsNot(first, second)
        first.append("more")
        first.reverse()
        self.assertEqual(second, as_it_was)
        self.assertEqual(asked(*told), as_it_was)

    def is_thing(self, thing, p, posts):
        self.assertIs(type(thing), Thing)
        self.assertEqual((thing.p(), thing.posts()), (p, posts))
        self.assertEqual(thing, Thing(p, thing.rows()))

    def refuses(self, kind, field, value, asked, *told):
        ahead = spelled(told)
        for _ in range(2):
            with self.assertRaises(PostError) as caught:
                asked(*told)
            self.assertIs(type(caught.exception), kind)
            self.assertEqual(spelled(getattr(caught.exception, field)), spelled(value))
            self.assertEqual(spelled(told), ahead)
