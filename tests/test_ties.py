import itertools
import unittest

from fairposts import ties
from fairposts.errors import BadPost, TooMany
from fairposts.gadgets import knot, lever, ring, spring
from fairposts.things import Thing
from tests.helper import (
    PRIMES, Told, a_stand, all_rows, all_thing_rows, any_row, any_thing_rows, dice, endless, kept_as_is, lot,
    odd_things, small_things, stands_of, thing_samples,
)


def without(row, *gone):
    return tuple(pair for post, pair in enumerate(row) if post not in gone)


def put_in(row, post, pair):
    """The row with a pair put in such that it stands at that post."""
    return row[:post] + (pair,) + row[post:]


class Beside(Told):
    def test_told_ones(self):
        both = ties.beside(spring(5, 2), lever(5, 3))
        self.assertEqual(both.rows(), (((1, 2), (0, 0), (0, 0)), ((0, 0), (1, 0), (3, 0)), ((0, 0), (0, 1), (0, 3))))

    def test_all_stands(self):
        for p in (2, 3):
            things = [Thing(p, rows) for posts in range(3) for rows in all_thing_rows(p, posts)]
            for one, other in itertools.product(things, repeat=2):
                if p ** (one.posts() + other.posts()) <= 27:
                    told = kept_as_is(self, ties.beside, one, other)
                    self.is_thing(told, p, one.posts() + other.posts())
                    stands = {a + b for a in stands_of(one) for b in stands_of(other)}
                    self.assertEqual(stands_of(told), stands)

    def test_none_to_ten_posts_together(self):
        source = dice("beside")
        for p in PRIMES:
            for first, second in itertools.product(range(11), repeat=2):
                if first + second > 10:
                    continue
                one = Thing(p, tuple(any_thing_rows(source, p, first)))
                other = Thing(p, tuple(any_thing_rows(source, p, second)))
                told = kept_as_is(self, ties.beside, one, other)
                self.is_thing(told, p, first + second)
                self.assertTrue(told.has(a_stand(source, one) + a_stand(source, other)))
                row = any_row(source, p, first) + a_stand(source, other)
                self.assertIs(told.has(row), one.has(row[:first]))
                row = a_stand(source, one) + any_row(source, p, second)
                self.assertIs(told.has(row), other.has(row[first:]))

    def test_beside_a_thing_without_posts(self):
        for source, p, posts, rows in thing_samples("beside none", 1):
            thing = Thing(p, tuple(rows))
            self.assertEqual(ties.beside(thing, Thing(p, ())), thing)
            self.assertEqual(ties.beside(Thing(p, ()), thing), thing)

    def test_beyond_ten_posts(self):
        source = dice("beyond")
        for p in PRIMES:
            for first, second in itertools.product(range(11), repeat=2):
                if first + second > 10:
                    one = Thing(p, tuple(any_thing_rows(source, p, first)))
                    other = Thing(p, tuple(any_thing_rows(source, p, second)))
                    self.refuses(TooMany, "bound", 10, ties.beside, one, other)


class Ordered(Told):
    def test_told_ones(self):
        thing = Thing(5, (((1, 1), (0, 0), (0, 0)), ((0, 0), (1, 2), (0, 0)), ((0, 0), (0, 0), (1, 3))))
        other = Thing(5, (((1, 3), (0, 0), (0, 0)), ((0, 0), (1, 1), (0, 0)), ((0, 0), (0, 0), (1, 2))))
        self.assertEqual(ties.ordered(thing, (2, 0, 1)), other)
        self.assertEqual(ties.ordered(lever(5, 2), (1, 0)), lever(5, 3))

    def test_all_orders_and_back(self):
        for p, posts, rows in small_things("ordered", 5):
            thing = Thing(p, rows)
            for order in itertools.permutations(range(posts)):
                told = kept_as_is(self, ties.ordered, thing, order)
                self.is_thing(told, p, posts)
                self.assertEqual(stands_of(told), {tuple(row[post] for post in order) for row in stands_of(thing)})
                self.assertEqual(ties.ordered(told, tuple(order.index(post) for post in range(posts))), thing)

    def test_many_posts(self):
        for source, p, posts, rows in thing_samples("orders", 2):
            thing = Thing(p, tuple(rows))
            order = tuple(source.sample(range(posts), posts))
            told = kept_as_is(self, ties.ordered, thing, order)
            self.is_thing(told, p, posts)
            row = a_stand(source, thing)
            self.assertTrue(told.has(tuple(row[post] for post in order)))
            row = any_row(source, p, posts)
            self.assertIs(told.has(tuple(row[post] for post in order)), thing.has(row))
            self.assertEqual(ties.ordered(told, tuple(order.index(post) for post in range(posts))), thing)
            self.assertEqual(ties.ordered(thing, tuple(range(posts))), thing)

    def test_beside_the_other_way_about(self):
        source = dice("beside ordered")
        for p in PRIMES:
            one, other = (Thing(p, tuple(any_thing_rows(source, p, posts))) for posts in (2, 3))
            self.assertEqual(ties.ordered(ties.beside(one, other), (2, 3, 4, 0, 1)), ties.beside(other, one))


class TurnedOver(Told):
    def test_told_ones(self):
        self.assertEqual(ties.turned_over(spring(5, 2)).rows(), (((1, 2),),))
        self.assertEqual(ties.turned_over(spring(7, 2)).rows(), (((1, 3),),))
        self.assertEqual(ties.turned_over(spring(7, 0)).rows(), (((0, 1),),))

    def test_all_stands(self):
        for p, posts, rows in small_things("turned over", 5):
            thing = Thing(p, rows)
            told = kept_as_is(self, ties.turned_over, thing)
            self.is_thing(told, p, posts)
            stands = {tuple(((p - answer) % p, push) for push, answer in row) for row in stands_of(thing)}
            self.assertEqual(stands_of(told), stands)

    def test_twice_is_itself(self):
        for source, p, posts, rows in thing_samples("over twice", 2):
            thing = Thing(p, tuple(rows))
            told = kept_as_is(self, ties.turned_over, thing)
            self.is_thing(told, p, posts)
            row = any_row(source, p, posts)
            for one in (row, a_stand(source, thing)):
                self.assertIs(told.has(tuple((-answer % p, push) for push, answer in one)), thing.has(one))
            turned = tuple(tuple((-push % p, -answer % p) for push, answer in one) for one in rows)
            self.assertEqual(ties.turned_over(told), Thing(p, turned))
            self.assertEqual(ties.turned_over(told), thing)

    def test_a_knot_is_a_ring(self):
        for p in PRIMES:
            for many in range(2, 11):
                self.assertEqual(ties.turned_over(knot(p, many)), ring(p, many))
                self.assertEqual(ties.turned_over(ring(p, many)), knot(p, many))


class Joined(Told):
    def test_told_ones(self):
        self.assertEqual(ties.joined(knot(5, 3), 0, 1).rows(), (((1, 0),),))
        self.assertEqual(ties.joined(ring(5, 3), 0, 1).rows(), (((1, 0),),))
        self.assertEqual(ties.joined(ring(2, 3), 0, 1).rows(), (((0, 1),),))
        self.assertEqual(ties.joined(lever(5, 2), 0, 1), Thing(5, ()))
        both = ties.beside(spring(7, 2), ties.beside(knot(7, 3), spring(7, 3)))
        # Two springs at one knot are, at its third post, as one spring of both together.
        self.assertEqual(ties.joined(ties.joined(both, 0, 1), 0, 2), spring(7, 5))

    def test_all_posts_going_through_the_stands(self):
        for p, posts, rows in small_things("joined", 8):
            thing = Thing(p, rows)
            stands = lot(p, posts, rows)
            for one, other in itertools.permutations(range(posts), 2):
                told = kept_as_is(self, ties.joined, thing, one, other)
                self.is_thing(told, p, posts - 2)
                kept = {without(row, one, other) for row in stands
                        if row[one][0] == row[other][0] and (row[one][1] + row[other][1]) % p == 0}
                self.assertEqual(stands_of(told), kept)

    def test_all_rows_one_by_one(self):
        for p, posts in ((2, 2), (2, 3), (3, 2), (2, 4)):
            source = dice("joined rows")
            for rows in all_thing_rows(p, posts) if posts < 4 else [any_thing_rows(source, p, 4) for _ in range(20)]:
                thing = Thing(p, tuple(rows))
                stands = lot(p, posts, rows)
                for one, other in itertools.combinations(range(posts), 2):
                    told = ties.joined(thing, one, other)
                    for row in all_rows(p, posts - 2):
                        pairs = itertools.product(itertools.product(range(p), repeat=2), repeat=2)
                        truth = any(put_in(put_in(row, one, first), other, second) in stands for first, second in pairs
                                    if first[0] == second[0] and (first[1] + second[1]) % p == 0)
                        self.assertIs(told.has(row), truth)

    def test_many_posts(self):
        for source, p, posts, rows in thing_samples("joins", 2):
            if posts < 2:
                continue
            thing = Thing(p, tuple(rows))
            one, other = source.sample(range(posts), 2)
            told = kept_as_is(self, ties.joined, thing, one, other)
            self.is_thing(told, p, posts - 2)
            self.assertEqual(ties.joined(thing, other, one), told)
            low, high = sorted((one, other))
            for row in told.rows():
                pairs = itertools.product(range(p), repeat=2)
                self.assertTrue(any(thing.has(put_in(put_in(row, low, (push, answer)), high, (push, -answer % p)))
                                    for push, answer in pairs))
            order = (*[post for post in range(posts) if post not in (one, other)], one, other)
            self.assertEqual(ties.joined(ties.ordered(thing, order), posts - 2, posts - 1), told)

    def test_a_lever_of_one_changes_signs_alone(self):
        source = dice("lever of one")
        for p in PRIMES:
            for posts in range(1, 9):
                thing = Thing(p, tuple(any_thing_rows(source, p, posts)))
                post = source.randrange(posts)
                told = ties.joined(ties.beside(thing, lever(p, 1)), post, posts)
                order = (*range(post), posts - 1, *range(post, posts - 1))
                self.assertEqual(ties.ordered(told, order), thing)

    def test_bad_posts(self):
        for p in PRIMES:
            for posts in (0, 1, 2, 3, 10):
                thing = Thing(p, tuple(tuple((int(k == j), 0) for j in range(posts)) for k in range(posts)))
                for post in odd_things() + [posts, posts + 1, -posts, 10, thing, (thing,), [0], "0"]:
                    self.refuses(BadPost, "post", post, ties.joined, thing, post, 0)
                    self.refuses(BadPost, "post", post, ties.joined, thing, post, post)
                    self.refuses(BadPost, "post", post, ties.joined, thing, post, None)
                    for good in range(posts):
                        self.refuses(BadPost, "post", post, ties.joined, thing, good, post)
                for post in range(posts):
                    self.refuses(BadPost, "post", post, ties.joined, thing, post, post)
                    self.refuses(BadPost, "post", True, ties.joined, thing, True, post)
                    self.refuses(BadPost, "post", False, ties.joined, thing, post, False)

    def test_which_of_two_is_told(self):
        thing = knot(5, 3)
        self.refuses(BadPost, "post", 3, ties.joined, thing, 3, 4)
        self.refuses(BadPost, "post", 4, ties.joined, thing, 4, 3)
        self.refuses(BadPost, "post", -1, ties.joined, thing, -1, -1)
        self.refuses(BadPost, "post", 1, ties.joined, thing, 1, 1)
        self.refuses(BadPost, "post", True, ties.joined, thing, 1, True)
        self.refuses(BadPost, "post", True, ties.joined, thing, True, 1)


class StilledAndFreed(Told):
    def test_told_ones(self):
        self.assertEqual(ties.stilled(spring(5, 2), 0), Thing(5, ()))
        self.assertEqual(ties.stilled(knot(5, 3), 1).rows(), (((0, 1), (0, 0)), ((0, 0), (0, 1))))
        self.assertEqual(ties.freed(knot(5, 3), 1), knot(5, 2))
        self.assertEqual(ties.stilled(ring(5, 3), 1), ring(5, 2))
        self.assertEqual(ties.freed(ring(5, 3), 1).rows(), (((1, 0), (0, 0)), ((0, 0), (1, 0))))
        self.assertEqual(ties.freed(lever(5, 2), 0), Thing(5, (((1, 0),),)))

    def test_all_posts_going_through_the_stands(self):
        for p, posts, rows in small_things("stilled", 8):
            thing = Thing(p, rows)
            stands = lot(p, posts, rows)
            for post in range(posts):
                for side, asked in enumerate((ties.stilled, ties.freed)):
                    told = kept_as_is(self, asked, thing, post)
                    self.is_thing(told, p, posts - 1)
                    self.assertEqual(stands_of(told), {without(row, post) for row in stands if row[post][side] == 0})

    def test_all_rows_one_by_one(self):
        for p, posts in ((2, 1), (2, 2), (2, 3), (3, 1), (3, 2), (5, 1), (7, 1)):
            for rows in all_thing_rows(p, posts):
                thing = Thing(p, rows)
                stands = lot(p, posts, rows)
                for post, row in itertools.product(range(posts), all_rows(p, posts - 1)):
                    truth = any(put_in(row, post, (0, number)) in stands for number in range(p))
                    self.assertIs(ties.stilled(thing, post).has(row), truth)
                    truth = any(put_in(row, post, (number, 0)) in stands for number in range(p))
                    self.assertIs(ties.freed(thing, post).has(row), truth)

    def test_many_posts(self):
        for source, p, posts, rows in thing_samples("stills", 2):
            thing = Thing(p, tuple(rows))
            for post in range(posts):
                for side, asked in enumerate((ties.stilled, ties.freed)):
                    told = kept_as_is(self, asked, thing, post)
                    self.is_thing(told, p, posts - 1)
                    for row in told.rows():
                        pairs = [(0, number) if side == 0 else (number, 0) for number in range(p)]
                        self.assertTrue(any(thing.has(put_in(row, post, pair)) for pair in pairs))

    def test_turned_over(self):
        for source, p, posts, rows in thing_samples("stilled over", 1):
            thing = Thing(p, tuple(rows))
            for post in range(posts):
                turned = ties.turned_over(ties.stilled(thing, post))
                self.assertEqual(ties.freed(ties.turned_over(thing), post), turned)

    def test_ties_in_any_order(self):
        source = dice("any order")
        for p in PRIMES:
            for posts in (4, 5, 8, 10):
                thing = Thing(p, tuple(any_thing_rows(source, p, posts)))
                a, b, c, d = sorted(source.sample(range(posts), 4))
                first = ties.freed(ties.stilled(ties.joined(thing, b, d), c - 1), a)
                second = ties.joined(ties.stilled(ties.freed(thing, a), c - 1), b - 1, d - 2)
                self.assertEqual(first, second)

    def test_bad_posts(self):
        for p in PRIMES:
            for posts in (0, 1, 2, 3, 10):
                thing = Thing(p, tuple(tuple((int(k == j), 0) for j in range(posts)) for k in range(posts)))
                for post in odd_things() + [posts, posts + 1, -posts - 1, thing, [0], (0,), "0", {0: 0}]:
                    self.refuses(BadPost, "post", post, ties.stilled, thing, post)
                    self.refuses(BadPost, "post", post, ties.freed, thing, post)

    def test_the_very_thing_is_told(self):
        wide = endless(tuple, 1000)
        thing = knot(5, 3)
        for asked, told in ((ties.stilled, (wide,)), (ties.freed, (wide,)), (ties.joined, (wide, 0)),
                            (ties.joined, (0, wide))):
            with self.assertRaises(BadPost) as caught:
                asked(thing, *told)
            self.assertIs(caught.exception.post, wide)


if __name__ == "__main__":
    unittest.main()
