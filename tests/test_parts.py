import itertools
import unittest

from fairposts import parts
from fairposts.errors import NotApart, PostError
from fairposts.gadgets import by_table, knot, lever, ring, spring
from fairposts.holds import all_holds, table
from fairposts.things import Thing
from fairposts.ties import beside, ordered
from tests.helper import (
    PRIMES, Told, all_of, all_tables, all_thing_rows, any_hold, any_table, any_thing_rows, dice, held, kept_as_is, lot,
    rank, small_things, spelled, stands_of, table_by_the_words, table_rows, thing_samples,
)


def all_groups(posts):
    """All rising tuples of the posts."""
    return [group for many in range(posts + 1) for group in itertools.combinations(range(posts), many)]


def alone(row, group):
    """The row with 0 put in all other posts' pairs."""
    return tuple(pair if post in group else (0, 0) for post, pair in enumerate(row))


def falls_by_the_words(stands, group):
    return all(alone(row, group) in stands for row in stands)


def parts_by_the_words(posts, falling):
    """The least groups, not empty, at which a thing falls apart, as [40] has it."""
    found = [group for group in falling if group and not any(other and other != group and set(other) <= set(group)
                                                             for other in falling)]
    return tuple(sorted(found))


def parts_by_leading(shown):
    """The parts by a table, as [41] has it: posts to which a row of posts leads."""
    found = set()
    for first in range(len(shown)):
        group = [first]
        for post in group:
            group += [other for other, number in enumerate(shown[post]) if number and other not in group]
        found.add(tuple(sorted(group)))
    return tuple(sorted(found))


def scattered(source, p, sizes):
    """A made-up thing of parts put beside one another and then in any order, and the groups of their posts."""
    thing, groups = Thing(p, ()), []
    for size in sizes:
        groups.append(list(range(thing.posts(), thing.posts() + size)))
        thing = beside(thing, by_table(p, any_hold(source, size), any_table(source, p, size)))
    order = source.sample(range(thing.posts()), thing.posts())
    return ordered(thing, tuple(order)), [sorted(order.index(post) for post in group) for group in groups]


class FallsApart(Told):
    def cannot_be_taken(self, thing, posts):
        ahead = spelled((thing, posts))
        for _ in range(2):
            with self.assertRaises(PostError) as caught:
                parts.part_of(thing, posts)
            self.assertIs(type(caught.exception), NotApart)
            self.assertEqual(spelled((thing, posts)), ahead)

    def test_told_ones(self):
        thing = beside(spring(5, 2), beside(lever(5, 1), spring(5, 0)))
        self.assertEqual(parts.parts_of(thing), ((0,), (1, 2), (3,)))
        self.assertIs(parts.falls_apart(thing, (0, 3)), True)
        self.assertIs(parts.falls_apart(thing, (0, 1)), False)
        self.assertEqual(parts.part_of(thing, (1, 2)), lever(5, 1))
        self.assertEqual(parts.part_of(thing, (0, 3)), beside(spring(5, 2), spring(5, 0)))
        self.assertEqual(parts.parts_of(ordered(thing, (1, 0, 3, 2))), ((0, 3), (1,), (2,)))
        self.assertEqual(parts.parts_of(lever(5, 0)), ((0,), (1,)))
        self.cannot_be_taken(thing, (0, 1))

    def test_all_groups_going_through_all_stands(self):
        seen = [0, 0]
        for p, posts, rows in small_things("groups", 12):
            thing, stands = Thing(p, rows), lot(p, posts, rows)
            falling = [group for group in all_groups(posts) if falls_by_the_words(stands, group)]
            told = kept_as_is(self, parts.parts_of, thing)
            self.assertEqual(spelled(told), spelled(parts_by_the_words(posts, falling)))
            for group in all_groups(posts):
                truth = group in falling
                seen[truth] += 1
                self.assertIs(kept_as_is(self, parts.falls_apart, thing, group), truth)
                self.assertIs(all(set(one) <= set(group) or not set(one) & set(group) for one in told), truth)
                if truth:
                    found = kept_as_is(self, parts.part_of, thing, group)
                    self.is_thing(found, p, len(group))
                    self.assertEqual(stands_of(found), {tuple(row[post] for post in group) for row in stands})
                else:
                    self.cannot_be_taken(thing, group)
        self.assertGreater(min(seen), 500)

    def test_the_same_parts_by_each_hold_that_stands(self):
        for p, posts, rows in small_things("each hold", 6):
            thing, stands = Thing(p, rows), lot(p, posts, rows)
            for hold in all_of((0, 1), posts):
                if rank(p, [held(hold, row) for row in rows]) == posts:
                    shown = table_by_the_words(p, hold, stands)
                    self.assertEqual(parts_by_leading(shown), parts.parts_of(thing))

    def test_many_posts(self):
        lengths = set()
        for source, p, posts, rows in thing_samples("parts of many", 3):
            thing = Thing(p, tuple(rows))
            told = kept_as_is(self, parts.parts_of, thing)
            self.assertEqual(sorted(sum(told, ())), list(range(posts)))
            lengths.add(len(told))
            for hold in source.sample(all_holds(thing), min(4, len(all_holds(thing)))):
                self.assertEqual(spelled(told), spelled(parts_by_leading(table(thing, hold))))
            for _ in range(6):
                group = tuple(post for post in range(posts) if source.randrange(2))
                truth = all(set(one) <= set(group) or not set(one) & set(group) for one in told)
                self.assertIs(parts.falls_apart(thing, group), truth)
                if not truth:
                    self.cannot_be_taken(thing, group)
        self.assertGreater(len(lengths), 6)

    def test_parts_in_any_order(self):
        source = dice("any order")
        for p in PRIMES:
            for sizes in ((), (1,), (2, 1), (1, 1, 1), (3, 2), (2, 3, 1), (4, 4), (5, 5), (3, 3, 3), (2,) * 5, (10,)):
                thing, groups = scattered(source, p, sizes)
                told = parts.parts_of(thing)
                for one in told:
                    self.assertTrue(any(set(one) <= set(group) for group in groups))
                for group in groups:
                    self.assertIs(parts.falls_apart(thing, tuple(group)), True)
                    self.is_thing(parts.part_of(thing, tuple(group)), p, len(group))

    def test_groups_of_parts_and_all_others_are_the_thing(self):
        source = dice("put together")
        for p in PRIMES:
            for sizes in ((2, 3), (1, 2, 3), (4, 1, 4), (2, 2, 2, 2), (5, 5), (1,) * 10):
                thing, groups = scattered(source, p, sizes)
                told = parts.parts_of(thing)
                some = source.sample(told, source.randint(0, len(told)))
                one = tuple(sorted(sum(some, ())))
                other = tuple(post for post in range(thing.posts()) if post not in one)
                both = beside(parts.part_of(thing, one), parts.part_of(thing, other))
                order = one + other
                self.assertEqual(ordered(both, tuple(order.index(post) for post in range(thing.posts()))), thing)

    def test_none_all_and_a_post_less_or_more(self):
        for source, p, posts, rows in thing_samples("less or more", 2):
            thing = Thing(p, tuple(rows))
            self.assertIs(parts.falls_apart(thing, ()), True)
            self.assertIs(parts.falls_apart(thing, tuple(range(posts))), True)
            self.assertEqual(parts.part_of(thing, ()), Thing(p, ()))
            self.assertEqual(parts.part_of(thing, tuple(range(posts))), thing)
            told = parts.parts_of(thing)
            for group in told:
                for post in group:
                    less = tuple(other for other in group if other != post)
                    self.assertIs(parts.falls_apart(thing, less), not less)
                    if less:
                        self.cannot_be_taken(thing, less)
                for post in range(posts):
                    if post not in group:
                        more = tuple(sorted((*group, post)))
                        self.assertIs(parts.falls_apart(thing, more), (post,) in told)

    def test_knots_and_rings_are_one_part(self):
        for p in PRIMES:
            for many in range(2, 11):
                self.assertEqual(parts.parts_of(knot(p, many)), (tuple(range(many)),))
                self.assertEqual(parts.parts_of(ring(p, many)), (tuple(range(many)),))
            self.assertEqual(parts.parts_of(Thing(p, ())), ())


class Counts(Told):
    def test_told_ones(self):
        self.assertEqual([parts.things_with(2, posts) for posts in range(5)], [1, 3, 15, 135, 2295])
        self.assertEqual([parts.tables_with(2, posts) for posts in range(5)], [1, 2, 8, 64, 1024])
        self.assertEqual(parts.things_with(7, 2), 400)
        self.assertEqual(parts.tables_with(13, 10), 13 ** 55)

    def test_all_posts(self):
        for p in PRIMES:
            many = 1
            for posts in range(11):
                self.assertEqual(spelled(parts.things_with(p, posts)), spelled(many))
                self.assertEqual(spelled(parts.tables_with(p, posts)), spelled(p ** sum(range(posts + 1))))
                many *= p ** (posts + 1) + 1

    def test_all_things_one_by_one(self):
        for p, posts in ((2, 0), (2, 1), (2, 2), (2, 3), (3, 1), (3, 2), (5, 1), (5, 2), (7, 1), (11, 1), (13, 1)):
            things = all_thing_rows(p, posts)
            self.assertEqual(parts.things_with(p, posts), len(things))
            self.assertEqual(parts.tables_with(p, posts), len(list(all_tables(p, posts))))
            for hold in all_of((0, 1), posts):
                standing = [rows for rows in things if rank(p, [held(hold, row) for row in rows]) == posts]
                self.assertEqual(parts.tables_with(p, posts), len(standing))

    def test_one_for_each_table(self):
        for p, posts in ((2, 2), (3, 2), (5, 1), (2, 3)):
            source = dice("each table")
            hold = any_hold(source, posts)
            found = {frozenset(lot(p, posts, table_rows(p, hold, shown))) for shown in all_tables(p, posts)}
            self.assertEqual(len(found), parts.tables_with(p, posts))
            self.assertEqual(Thing(p, tuple(any_thing_rows(source, p, posts))).posts(), posts)


if __name__ == "__main__":
    unittest.main()
