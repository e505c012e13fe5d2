import itertools
import unittest

from fairposts import exchanges
from fairposts.errors import Still
from fairposts.gadgets import by_table, knot, lever, ring, spring
from fairposts.holds import all_holds, still_hands, stands, table
from fairposts.things import Thing
from tests.helper import (
    PRIMES, Told, all_of, any_table, any_thing_rows, dice, endless, held, kept_as_is, lot, odd_things, one_otherwise,
    plain_of, rank, small_things, spelled, still_set, table_by_the_words, thing_samples,
)


def flipped(hold, posts):
    """The hold with the other side at each of the posts."""
    found = list(hold)
    for post in posts:
        found[post] = {0: 1, 1: 0}[found[post]]
    return tuple(found)


def all_exchanges(posts):
    return [*itertools.combinations(range(posts), 1), *itertools.combinations(range(posts), 2)]


def small_standing(name, times=4):
    """(p, posts, stands, thing, hold) of all holds that stand of small things."""
    for p, posts, rows in small_things(name, times):
        lots = lot(p, posts, rows)
        for hold in all_of((0, 1), posts):
            if len(still_set(hold, lots)) == 1:
                yield p, posts, lots, Thing(p, rows), hold


def standing_samples(name, times=2):
    """(source, p, posts, thing, hold, other): two holds that stand, of things of 0 to 10 posts."""
    for source, p, posts, rows in thing_samples(name, times):
        thing = Thing(p, tuple(rows))
        found = all_holds(thing)
        yield source, p, posts, thing, source.choice(found), source.choice(found)


def way_by_the_words(one, other, standing):
    """The told way, as [25] has it, where standing are all holds that stand."""
    found = []
    while one != other:
        to_do = [post for post in range(len(one)) if one[post] != other[post]]
        able = [posts for many in (1, 2) for posts in itertools.combinations(to_do, many)
                if flipped(one, posts) in standing]
        found.append(able[0])
        one = flipped(one, able[0])
    return tuple(found)


def is_right_way(one, other, standing, paper):
    """Tell whether paper is a way, as [25] has it, where standing are all holds that stand."""
    if type(paper) is not tuple or any(type(posts) is not tuple or len(posts) not in (1, 2) for posts in paper):
        return False
    touched = [post for posts in paper for post in posts]
    if any(type(post) is not int for post in touched):
        return False
    if sorted(touched) != [post for post in range(len(one)) if one[post] != other[post]]:
        return False
    for posts in paper:
        one = flipped(one, posts)
        if list(posts) != sorted(posts) or one not in standing:
            return False
    return True


def all_ways(one, other, standing):
    """All ways from one hold to another."""
    if one == other:
        return [()]
    to_do = [post for post in range(len(one)) if one[post] != other[post]]
    found = []
    for posts in (posts for many in (1, 2) for posts in itertools.combinations(to_do, many)):
        if flipped(one, posts) in standing:
            found += [(posts, *rest) for rest in all_ways(flipped(one, posts), other, standing)]
    return found


class Exchanged(Told):
    def test_told_ones(self):
        self.assertEqual(exchanges.exchanged(spring(5, 2), (0,), (0,)), (1,))
        self.assertEqual(exchanges.exchanged(lever(5, 2), (0, 1), (0, 1)), (1, 0))
        self.assertEqual(exchanges.turned(7, (0,), ((2,),), (0,)), ((1,), ((3,),)))
        self.assertEqual(exchanges.turned(5, (0, 1), ((0, 3), (3, 0)), (0, 1)), ((1, 0), ((0, 2), (2, 0))))
        self.assertIsNone(exchanges.turned(5, (0, 1), ((0, 3), (3, 0)), (0,)))
        self.refuses(Still, "hand", ((1, 0),), exchanges.exchanged, spring(7, 0), (0,), (0,))
        self.refuses(Still, "hand", ((1, 0), (2, 0)), exchanges.exchanged, lever(5, 2), (0, 1), (0,))
        self.refuses(Still, "hand", ((0, 1), (0, 2)), exchanges.exchanged, lever(5, 2), (0, 1), (1,))
        self.refuses(Still, "hand", ((1, 0), (6, 0), (0, 0)), exchanges.exchanged, ring(7, 3), (1, 0, 0), (1, ))

    def test_all_exchanges_going_through_all_stands(self):
        seen = [0, 0]
        for p, posts, lots, thing, hold in small_standing("exchanged"):
            shown = table_by_the_words(p, hold, lots)
            for told in all_exchanges(posts):
                new = flipped(hold, told)
                stills = plain_of(still_set(new, lots))
                behind = kept_as_is(self, exchanges.turned, p, hold, shown, told)
                seen[bool(stills)] += 1
                if stills:
                    self.assertIsNone(behind)
                    self.refuses(Still, "hand", stills[0], exchanges.exchanged, thing, hold, told)
                    continue
                self.assertEqual(spelled(kept_as_is(self, exchanges.exchanged, thing, hold, told)), spelled(new))
                self.assertEqual(spelled(behind), spelled((new, table_by_the_words(p, new, lots))))
                self.assertEqual(exchanges.exchanged(thing, new, told), hold)
                self.assertEqual(exchanges.turned(p, *behind, told), (hold, shown))
        self.assertGreater(min(seen), 1000)

    def test_many_posts(self):
        seen = [0, 0]
        for source, p, posts, thing, hold, other in standing_samples("exchanged many"):
            shown = table(thing, hold)
            for told in all_exchanges(posts):
                new = flipped(hold, told)
                behind = exchanges.turned(p, hold, shown, told)
                standing = rank(p, [held(new, row) for row in thing.rows()]) == posts
                seen[standing] += 1
                if standing:
                    self.assertEqual(spelled(exchanges.exchanged(thing, hold, told)), spelled(new))
                    self.assertEqual(spelled(behind), spelled((new, table(thing, new))))
                    self.assertEqual(exchanges.turned(p, *behind, told), (hold, shown))
                else:
                    self.assertIsNone(behind)
                    hand = still_hands(thing, new)[0]
                    self.refuses(Still, "hand", hand, exchanges.exchanged, thing, hold, told)
        self.assertGreater(min(seen), 500)

    def test_by_the_table_alone(self):
        source = dice("table alone")
        for p in PRIMES:
            for posts in range(1, 11):
                for full in (False, True):
                    shown = any_table(source, p, posts, full)
                    hold = source.choice(all_of((0, 1), posts))
                    thing = by_table(p, hold, shown)
                    told = source.choice(all_exchanges(posts))
                    behind = kept_as_is(self, exchanges.turned, p, hold, shown, told)
                    new = flipped(hold, told)
                    self.assertEqual(behind is not None, stands(thing, new))
                    if behind is not None:
                        self.assertEqual(by_table(p, *behind), thing)

    def test_two_posts_one_behind_the_other_and_together(self):
        seen = 0
        for source, p, posts, thing, hold, other in standing_samples("one behind the other", 3):
            shown = table(thing, hold)
            for a, b in itertools.permutations(range(posts), 2):
                first = exchanges.turned(p, hold, shown, (a,))
                second = first and exchanges.turned(p, *first, (b,))
                if second:
                    seen += 1
                    self.assertEqual(exchanges.turned(p, hold, shown, (min(a, b), max(a, b))), second)
        self.assertGreater(seen, 500)


class Ways(Told):
    def test_told_ones(self):
        self.assertEqual(exchanges.way(spring(5, 2), (0,), (1,)), ((0,),))
        self.assertEqual(exchanges.way(lever(5, 2), (0, 1), (1, 0)), ((0, 1),))
        self.assertEqual(exchanges.way(knot(5, 3), (0, 1, 1), (1, 1, 0)), ((0, 2),))
        thing = by_table(5, (0, 0, 0), ((0, 1, 0), (1, 0, 0), (0, 0, 1)))
        self.assertEqual(exchanges.way(thing, (0, 0, 0), (1, 1, 1)), ((2,), (0, 1)))
        thing = by_table(5, (0,) * 4, ((0, 0, 0, 1), (0, 0, 1, 0), (0, 1, 0, 0), (1, 0, 0, 0)))
        self.assertEqual(exchanges.way(thing, (0,) * 4, (1,) * 4), ((0, 3), (1, 2)))

    def test_the_words_step_by_step(self):
        pairs = 0
        for p, posts, rows in small_things("ways", 4):
            lots = lot(p, posts, rows)
            thing = Thing(p, rows)
            standing = [hold for hold in all_of((0, 1), posts) if len(still_set(hold, lots)) == 1]
            for one, other in itertools.product(standing, repeat=2):
                told = kept_as_is(self, exchanges.way, thing, one, other)
                self.assertEqual(spelled(told), spelled(way_by_the_words(one, other, standing)))
                self.assertTrue(is_right_way(one, other, standing, told))
                self.assertIs(kept_as_is(self, exchanges.way_holds, thing, one, other, told), True)
                pairs += 1
        self.assertGreater(pairs, 1000)

    def test_many_posts(self):
        twos = 0
        for source, p, posts, thing, one, other in standing_samples("ways of many", 4):
            standing = set(all_holds(thing))
            told = kept_as_is(self, exchanges.way, thing, one, other)
            self.assertEqual(spelled(told), spelled(way_by_the_words(one, other, standing)))
            self.assertIs(kept_as_is(self, exchanges.way_holds, thing, one, other, told), True)
            twos += any(len(posts) == 2 for posts in told)
        self.assertGreater(twos, 20)

    def test_exchange_by_exchange(self):
        for source, p, posts, thing, one, other in standing_samples("by exchange"):
            hold, shown = one, table(thing, one)
            for told in exchanges.way(thing, one, other):
                new = exchanges.exchanged(thing, hold, told)
                hold, shown = exchanges.turned(p, hold, shown, told)
                self.assertEqual(new, hold)
            self.assertEqual((hold, shown), (other, table(thing, other)))

    def test_from_a_hold_to_itself(self):
        for source, p, posts, thing, one, other in standing_samples("to itself", 1):
            self.assertEqual(spelled(exchanges.way(thing, one, one)), spelled(()))
            self.assertIs(exchanges.way_holds(thing, one, one, ()), True)
            self.assertIs(exchanges.way_holds(thing, one, other, ()), one == other)
            for wrong in ([], ((),), None, ((0,),), ((0,), (0,)), ((0, 1),), "", {}):
                self.assertIs(exchanges.way_holds(thing, one, one, wrong), False)

    def test_ten_posts_two_by_two(self):
        for p in PRIMES:
            shown = tuple(tuple(int(k == 9 - j) for j in range(10)) for k in range(10))
            thing = by_table(p, (0,) * 10, shown)
            told = ((0, 9), (1, 8), (2, 7), (3, 6), (4, 5))
            self.assertEqual(exchanges.way(thing, (0,) * 10, (1,) * 10), told)
            self.assertEqual(exchanges.way(thing, (1,) * 10, (0,) * 10), told)
            self.assertIs(exchanges.way_holds(thing, (0,) * 10, (1,) * 10, told[::-1]), True)
            self.assertIs(exchanges.way_holds(thing, (0,) * 10, (1,) * 10, ((0, 1), (8, 9), *told[2:])), False)


class Judge(Told):
    def says(self, truth, thing, one, other, paper):
        self.assertIs(kept_as_is(self, exchanges.way_holds, thing, one, other, paper), truth, spelled(paper))

    def test_all_ways_in_any_order(self):
        rights = wrongs = 0
        source = dice("any order")
        for p in (2, 3, 5):
            for posts in range(5):
                for _ in range(12):
                    thing = Thing(p, tuple(any_thing_rows(source, p, posts)))
                    standing = all_holds(thing)
                    one, other = source.choice(standing), source.choice(standing)
                    right = all_ways(one, other, standing)
                    self.assertIn(exchanges.way(thing, one, other), right)
                    for paper in right:
                        for order in itertools.permutations(paper):
                            self.says(order in right, thing, one, other, order)
                            rights += order in right
                            wrongs += order not in right
        self.assertGreater(min(rights, wrongs), 40)

    def test_all_papers_of_few_exchanges(self):
        for p, posts, rows in small_things("all papers", 0):
            if p ** posts > 9 or posts > 2:
                continue
            thing = Thing(p, rows)
            standing = [hold for hold in all_of((0, 1), posts) if len(still_set(hold, lot(p, posts, rows))) == 1]
            steps = [(), *all_of(range(-1, 3), 1), *all_of(range(3), 2), (0, 1, 1), (True,), (0, True), (False, 1)]
            papers = [paper for many in range(3) for paper in all_of(steps, many)]
            for one, other in itertools.product(standing, repeat=2):
                for paper in papers:
                    truth = is_right_way(one, other, standing, paper)
                    self.assertIs(exchanges.way_holds(thing, one, other, paper), truth, paper)

    def test_something_otherwise(self):
        rights = 0
        for source, p, posts, thing, one, other in standing_samples("otherwise", 1):
            standing = set(all_holds(thing))
            told = exchanges.way(thing, one, other)
            for paper in one_otherwise(told):
                truth = is_right_way(one, other, standing, paper)
                rights += truth
                self.says(truth, thing, one, other, paper)
            for at, step in enumerate(told):
                without = told[:at] + told[at + 1:]
                for more in (without, told + (step,), (step,) + told, told + ((0,),), told + ((posts,),),
                             told[:at] + (step[::-1],) + told[at + 1:], told[:at] + (list(step),) + told[at + 1:],
                             told[::-1], (tuple(post for step in told for post in step),),
                             tuple((post,) for step in told for post in step), list(told)):
                    self.says(is_right_way(one, other, standing, more), thing, one, other, more)
            for k, j in itertools.combinations(range(len(told)), 2):
                together = tuple(sorted(told[k] + told[j]))
                more = tuple(step for at, step in enumerate(told) if at not in (k, j))
                for paper in ((together, *more), (*more, together), told[:k] + (told[j],) + told[k + 1:]):
                    self.says(is_right_way(one, other, standing, paper), thing, one, other, paper)

    def test_the_way_of_other_holds(self):
        for source, p, posts, thing, one, other in standing_samples("other holds", 1):
            standing = set(all_holds(thing))
            for third in source.sample(sorted(standing), min(6, len(standing))):
                for paper in (exchanges.way(thing, one, third), exchanges.way(thing, third, other)):
                    self.says(is_right_way(one, other, standing, paper), thing, one, other, paper)

    def test_turned_about(self):
        for source, p, posts, thing, one, other in standing_samples("turned about", 1):
            told = exchanges.way(thing, one, other)
            self.says(True, thing, other, one, told[::-1])

    def test_anything(self):
        things = [Thing(3, ()), spring(5, 1), lever(13, 3), knot(2, 3), spring(7, 0)]
        for thing in things:
            standing = all_holds(thing)
            for one, other in itertools.product(standing, repeat=2):
                told = exchanges.way(thing, one, other)
                for odd in odd_things() + things + [list(told)]:
                    for paper in (odd, (odd,), told + (odd,), ((odd,),), ((0, odd),), ((odd, 0),)):
                        self.says(is_right_way(one, other, standing, paper), thing, one, other, paper)

    def test_what_takes_for_ever_to_go_through(self):
        for wide in (endless(tuple, 2), endless(list, 2), endless(tuple, 1000)):
            for paper in (wide, (wide,), ((wide,),), ((0, wide),), ((0, 1), wide)):
                self.assertIs(exchanges.way_holds(knot(5, 2), (0, 1), (1, 0), paper), False)


if __name__ == "__main__":
    unittest.main()
