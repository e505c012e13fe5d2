import itertools
import unittest

from fairposts.errors import BadThing
from fairposts.things import Thing
from tests.helper import (
    PRIMES, Told, all_of, all_rows, all_thing_rows, any_row, any_thing_rows, dice, endless, flat, is_among, kept_as_is,
    lot, met, mixed, odd_things, one_otherwise, other_span, rank, small_things, spelled, table_rows, thing_samples,
    unalike,
)


def widened(source, p, posts, rows):
    """Other rows, at most twenty, that span the same: with sums, multiples, rows told twice and noughts."""
    found = other_span(source, p, posts, rows)
    for _ in range(source.randrange(21 - len(found))):
        if found:
            numbers = [source.choice((0, 0, 0, 1, p - 1, source.randrange(p))) for _ in found]
            found.append(source.choice((source.choice(found), mixed(p, posts, numbers, found))))
    source.shuffle(found)
    return tuple(found)


def with_number(row, place, number):
    numbers = flat(row)
    numbers[place] = number
    return tuple(zip(numbers[::2], numbers[1::2]))


def stands_by_rank(p, rows, hold):
    """Tell whether the numbers at the held sides tell the stand: they are free of one another."""
    return rank(p, [[pair[side] for pair, side in zip(row, hold)] for row in rows]) == len(hold)


def is_row_like(p, row):
    if type(row) is not tuple or any(type(pair) is not tuple or len(pair) != 2 for pair in row):
        return False
    return all(type(number) is int and 0 <= number < p for number in flat(row))


def place_of(p, rows):
    """Where rows fail to make a thing round p, None where they make one."""
    if type(rows) is not tuple or len(rows) > 20 or not all(is_row_like(p, row) for row in rows):
        return ("rows",)
    lengths = sorted({len(row) for row in rows})
    if len(lengths) > 1 or lengths[-1:] > [10]:
        return ("rows",)
    for k, j in itertools.combinations(range(len(rows)), 2):
        if met(p, rows[k], rows[j]):
            return ("fair", k, j)
    free = rank(p, [flat(row) for row in rows])
    return ("few", free) if free < sum(lengths) else None


class Made(Told):
    def is_right(self, thing, p, posts, rows):
        self.assertIs(thing.p(), p)
        self.assertIs(type(thing.posts()), int)
        self.assertEqual((thing.posts(), len(thing)), (posts, posts))
        self.assertEqual(str(thing), f"thing of {posts} posts round {p}")
        told = thing.rows()
        self.assertIs(type(told), tuple)
        self.is_plain(list(told), p, posts)
        self.assertEqual(len(told), posts)
        self.assertEqual([row for row in rows if not is_among(p, posts, told, row)], [])

    def test_told_ones(self):
        thing = Thing(5, (((2, 1), (0, 0)), ((0, 0), (0, 3))))
        self.is_right(thing, 5, 2, ())
        self.assertEqual(thing.rows(), (((1, 3), (0, 0)), ((0, 0), (0, 1))))
        self.assertEqual(str(thing), "thing of 2 posts round 5")
        self.assertEqual(str(Thing(13, (((0, 1),),))), "thing of 1 posts round 13")
        self.assertEqual(str(Thing(2, ())), "thing of 0 posts round 2")

    def test_of_rows_that_span_in_any_way(self):
        for source, p, posts, rows in thing_samples("made"):
            thing = kept_as_is(self, Thing, p, tuple(rows))
            self.is_right(thing, p, posts, rows)
            for _ in range(3):
                other = widened(source, p, posts, rows)
                found = kept_as_is(self, Thing, p, other)
                self.is_right(found, p, posts, other)
                self.assertEqual(found.rows(), thing.rows())

    def test_of_twenty_rows_and_ten_posts(self):
        source = dice("twenty")
        for p in PRIMES:
            rows = any_thing_rows(source, p, 10)
            rows = tuple(other_span(source, p, 10, rows)[:20]) + ((((0, 0),) * 10,) * 20)
            self.is_right(Thing(p, rows[:20]), p, 10, rows)

    def test_without_posts(self):
        for p in PRIMES:
            for rows in ((), ((),), ((),) * 20):
                thing = Thing(p, rows)
                self.is_right(thing, p, 0, rows)
                self.assertEqual(thing.rows(), ())
                self.assertIs(thing.has(()), True)
                self.assertEqual(thing.told(), (p, (), ()))
                self.assertEqual(thing, Thing(p, ()))

    def test_asked_twice(self):
        for source, p, posts, rows in thing_samples("twice", 1):
            thing = Thing(p, tuple(rows))
            row = any_row(source, p, posts)
            for asked in (Thing.p, Thing.posts, Thing.rows, Thing.told, len, str):
                kept_as_is(self, asked, thing)
            kept_as_is(self, Thing.has, thing, row)
            self.assertEqual(thing, Thing(p, tuple(rows)))


class Has(unittest.TestCase):
    def test_all_rows(self):
        for p, posts, rows in small_things("has", 4):
            if p ** posts > 30:
                continue
            thing = Thing(p, rows)
            stands = lot(p, posts, rows)
            self.assertEqual(len(stands), p ** posts)
            for row in all_rows(p, posts):
                self.assertIs(thing.has(row), row in stands)

    def test_stands_and_stands_with_one_number_otherwise(self):
        for source, p, posts, rows in thing_samples("one number"):
            thing = Thing(p, tuple(rows))
            stand = mixed(p, posts, [source.randrange(p) for _ in rows], rows)
            self.assertIs(kept_as_is(self, thing.has, stand), True)
            for place, number in enumerate(flat(stand)):
                other = with_number(stand, place, (number + source.randrange(1, p)) % p)
                self.assertIs(thing.has(other), is_among(p, posts, thing.rows(), other))
            self.assertIs(thing.has(((0, 0),) * posts), True)

    def test_any_row(self):
        for source, p, posts, rows in thing_samples("any row"):
            thing = Thing(p, tuple(rows))
            row = any_row(source, p, posts)
            self.assertIs(kept_as_is(self, thing.has, row), is_among(p, posts, thing.rows(), row))


class Equal(unittest.TestCase):
    def says(self, truth, one, other):
        for left, right in ((one, other), (other, one)):
            self.assertIs(left == right, truth)
            self.assertIs(left != right, not truth)

    def test_however_spanned(self):
        for source, p, posts, rows in thing_samples("equal"):
            thing = Thing(p, tuple(rows))
            self.says(True, thing, thing)
            self.says(True, thing, Thing(p, widened(source, p, posts, rows)))
            if posts:
                for other in (any_thing_rows(source, p, posts), rows[1:] + [((0, 0),) * posts]):
                    if place_of(p, tuple(other)) is None:
                        alike = all(is_among(p, posts, thing.rows(), row) for row in other)
                        self.says(alike, thing, Thing(p, tuple(other)))

    def test_all_small_ones(self):
        for p, posts in ((2, 1), (2, 2), (3, 1), (3, 2), (13, 1)):
            things = [Thing(p, rows) for rows in all_thing_rows(p, posts)]
            for (at, one), (by, other) in itertools.product(enumerate(things), repeat=2):
                self.says(at == by, one, other)
                self.assertIs(one.told() == other.told(), at == by)
                self.assertIs(one.rows() == other.rows(), at == by)

    def test_other_primes_and_other_posts(self):
        pushes = [tuple(tuple((int(k == j), 0) for j in range(posts)) for k in range(posts)) for posts in range(11)]
        things = [Thing(p, rows) for p in PRIMES for rows in pushes]
        for (at, one), (by, other) in itertools.product(enumerate(things), repeat=2):
            self.says(at == by, one, other)

    def test_nothing_else(self):
        for p, posts in ((2, 0), (5, 1), (3, 2)):
            thing = Thing(p, all_thing_rows(p, posts)[-1])
            told = [thing.rows(), list(thing.rows()), thing.told(), (p, thing.rows()), str(thing), p, posts]
            for other in odd_things() + told + [(thing,), [thing], object(), Thing]:
                self.says(False, thing, other)


class ToldForm(unittest.TestCase):
    def test_told_ones(self):
        self.assertEqual(Thing(5, (((1, 3),),)).told(), (5, (0,), ((3,),)))
        self.assertEqual(Thing(5, (((0, 1),),)).told(), (5, (1,), ((0,),)))
        self.assertEqual(Thing(3, (((1, 0), (1, 0)), ((0, 1), (0, 2)))).told(), (3, (0, 1), ((0, 2), (2, 0))))

    def test_the_first_hold_that_stands_by_going_through_all(self):
        for p, posts, rows in small_things("told"):
            stands = lot(p, posts, rows)
            for hold in all_of((0, 1), posts):
                if len({tuple(pair[side] for pair, side in zip(row, hold)) for row in stands}) == len(stands):
                    break
            told = kept_as_is(self, Thing(p, rows).told)
            self.assertFalse(unalike(told[:2], (p, hold)))
            self.assertEqual(lot(p, posts, table_rows(p, hold, told[2])), stands)
            self.assertTrue(all(type(number) is int and 0 <= number < p for row in told[2] for number in row))
            self.assertEqual(spelled(told[2]), spelled(tuple(zip(*told[2]))))

    def test_the_first_hold_of_many_posts(self):
        for source, p, posts, rows in thing_samples("told form", 1):
            thing = Thing(p, tuple(rows))
            told = kept_as_is(self, thing.told)
            hold = next(hold for hold in itertools.product((0, 1), repeat=posts) if stands_by_rank(p, rows, hold))
            self.assertFalse(unalike(told[:2], (p, hold)))
            self.assertEqual([len(row) for row in told[2]], [posts] * posts)
            self.assertTrue(all(is_among(p, posts, thing.rows(), row) for row in table_rows(p, hold, told[2])))

    def test_the_same_just_where_things_are(self):
        for source, p, posts, rows in thing_samples("same told"):
            thing = Thing(p, tuple(rows))
            self.assertEqual(Thing(p, widened(source, p, posts, rows)).told(), thing.told())
            other = Thing(p, tuple(any_thing_rows(source, p, posts)))
            self.assertIs(other.told() == thing.told(), other == thing)


class Refused(Told):
    def refuses(self, place, p, rows):
        Told.refuses(self, BadThing, "place", place, Thing, p, rows)

    def test_p(self):
        numbers = [0, 1, 4, 6, 8, 9, 10, 12, 15, 16, 17, -2, 2 + 2 ** 64, "13", [13], (13,), {13: 13}]
        for p in odd_things() + numbers + [Thing(2, ())]:
            if unalike(p, 13):
                self.refuses(("p",), p, ())
                self.refuses(("p",), p, (((1, 0),),))

    def test_rows_that_are_no_tuple_of_rows(self):
        some = ((1, 0), (0, 0)), ((0, 0), (0, 1))
        wrong = [
            list(some), [], None, {}, 0, "", "rows", some + (None,), some + (((1, 0),),), (((1, 0),),) + some,
            some + ((),), ((),) + some, some + (((0, 0),) * 3,), some + (list(some[0]),), (some,), some[0],
            Thing(2, ()), (Thing(2, ()),), (Thing(2, some),) * 2, ("ab", "cd"), ({0: 0, 1: 1},),
        ]
        for p in PRIMES:
            for rows in wrong:
                self.refuses(("rows",), p, rows)

    def test_rows_with_one_thing_otherwise(self):
        source = dice("rows otherwise")
        for p in PRIMES:
            for posts in (1, 2, 3):
                told = tuple(any_thing_rows(source, p, posts))
                for rows in one_otherwise(told):
                    place = place_of(p, rows)
                    if place is None:
                        self.assertEqual(len(Thing(p, rows)), len(rows[0]) if rows else 0)
                    else:
                        self.refuses(place, p, rows)

    def test_a_number_or_a_pair_otherwise(self):
        source = dice("pairs")
        for p in PRIMES:
            for posts in (1, 2, 10):
                rows = tuple(any_thing_rows(source, p, posts))
                for _ in range(6):
                    k, at = source.randrange(posts), source.randrange(posts)
                    for pair in ((p, 0), (0, p), (-1, 0), (0, -1), (True, 0), (0, False), (0, 0, 0), (0,), (), [0, 0],
                                 None, 0, "00", ("0", "0"), (None, 0), (0, None), ((0, 0), 0), (0, 10 ** 59), {},
                                 {0: 0, 1: 0}):
                        row = rows[k][:at] + (pair,) + rows[k][at + 1:]
                        self.refuses(("rows",), p, rows[:k] + (row,) + rows[k + 1:])

    def test_too_many_rows_or_posts(self):
        source = dice("too many")
        for p in PRIMES:
            for posts in (0, 1, 10):
                rows = tuple(any_thing_rows(source, p, posts)) + (((0, 0),) * posts,) * 21
                self.assertEqual(len(Thing(p, rows[:20])), posts)
                self.refuses(("rows",), p, rows[:21])
                self.refuses(("rows",), p, (rows * 50)[:1000])
            for posts in (11, 12, 20, 1000):
                self.refuses(("rows",), p, (((0, 0),) * posts,))
                self.refuses(("rows",), p, (((1, 0),) * posts, ((0, 1),) * posts))
            self.refuses(("rows",), p, tuple(any_thing_rows(source, p, 11)))

    def test_odd_rows(self):
        for p in PRIMES:
            for thing in odd_things():
                if unalike(thing, ((),)):
                    self.refuses(("rows",), p, thing)
                self.refuses(("rows",), p, (thing,))
                self.refuses(("rows",), p, (((1, 0),), thing))
                self.refuses(("rows",), p, (((1, thing),),))
                self.refuses(("rows",), p, (((thing, 1),),))
                if unalike(thing, (0, 1)):
                    self.refuses(("rows",), p, (((1, 0), thing),))

    def test_what_takes_for_ever_to_go_through(self):
        for wide in (endless(tuple, 2), endless(list, 2), endless(tuple, 1000), endless(tuple, 10)):
            for told in ((wide, ()), (2, wide), (2, (wide,)), (2, (wide, wide)), (2, ((wide,),)), (2, (((0, wide),),))):
                with self.assertRaises(BadThing) as caught:
                    Thing(*told)
                self.assertEqual(caught.exception.place, ("rows",) if told[0] == 2 else ("p",))

    def test_not_fair(self):
        self.refuses(("fair", 0, 1), 5, (((1, 0),), ((0, 1),)))
        self.refuses(("fair", 0, 2), 5, (((1, 0),), ((2, 0),), ((0, 1),)))
        self.refuses(("fair", 1, 2), 5, (((0, 0),), ((2, 0),), ((0, 1),)))
        self.refuses(("fair", 0, 3), 5, (((1, 0), (0, 0)), ((0, 0), (1, 0)), ((0, 0), (0, 1)), ((0, 1), (0, 0))))

    def test_the_first_two_that_are_not_fair(self):
        source = dice("fair")
        for p in PRIMES:
            for posts in range(1, 11):
                for many in range(2, 21, 3):
                    rows = list((any_thing_rows(source, p, posts) * 20)[:many])
                    for _ in range(source.randrange(1, 3)):
                        rows[source.randrange(many)] = any_row(source, p, posts)
                    pairs = [(k, j) for k in range(many) for j in range(k + 1, many) if met(p, rows[k], rows[j])]
                    if pairs:
                        self.refuses(("fair", *min(pairs)), p, tuple(rows))

    def test_two_rows_alone(self):
        for p, posts in ((2, 1), (2, 2), (3, 1), (5, 1)):
            for one, other in itertools.product(all_rows(p, posts), repeat=2):
                if met(p, one, other):
                    self.refuses(("fair", 0, 1), p, (one, other))
                    self.refuses(("fair", 1, 3), p, (((0, 0),) * posts, one, one, other))

    def test_too_few(self):
        source = dice("few")
        for p in PRIMES:
            for posts in range(1, 11):
                rows = any_thing_rows(source, p, posts)
                for many in range(posts):
                    some = other_span(source, p, posts, rows)[:many] + [((0, 0),) * posts]
                    free = rank(p, [flat(row) for row in some])
                    self.refuses(("few", free), p, tuple(widened(source, p, posts, some)))
                self.refuses(("few", 0), p, (((0, 0),) * posts,) * source.randrange(1, 21))

    def test_the_first_of_several(self):
        unfair, few = (((1, 0), (0, 0)), ((0, 1), (0, 0))), (((1, 0), (0, 0)),)
        for rows in (unfair, few, [], None, unfair + (None,)):
            self.refuses(("p",), 4, rows)
            self.refuses(("p",), True, rows)
        self.refuses(("rows",), 3, unfair + (None,))
        self.refuses(("rows",), 3, list(unfair))
        self.refuses(("rows",), 3, few + (((3, 0), (0, 0)),))
        self.refuses(("rows",), 3, unfair + (((0, 0),),))
        self.refuses(("rows",), 3, unfair * 11)
        self.refuses(("rows",), 3, (((1, 0),) + ((0, 0),) * 10, ((0, 1),) + ((0, 0),) * 10))
        self.refuses(("fair", 0, 1), 3, unfair + (((0, 0), (0, 0)),))
        self.refuses(("few", 1), 3, few)


if __name__ == "__main__":
    unittest.main()
