import unittest

from fairposts import holds
from fairposts.errors import Still
from fairposts.gadgets import by_table, knot, lever, ring, spring
from fairposts.things import Thing
from tests.helper import (
    PRIMES, Told, all_of, all_rows, any_hold, any_row, any_table, dice, endless, held, kept_as_is, lot,
    mended_by_the_words, mixed, odd_things, one_otherwise, plain_of, rank, small_things, spelled, still_set,
    table_by_the_words, table_rows, thing_samples, unalike,
)


def stands_by_counting(p, hold, stands):
    """Tell whether for all numbers there is just one stand that has them, as [16] has it."""
    found = [held(hold, row) for row in stands]
    return all(found.count(numbers) == 1 for numbers in all_of(range(p), len(hold)))


def is_right_paper(p, hold, stands, paper):
    """Tell whether paper is one of the hold, as [18] has it."""
    if type(paper) is not tuple or len(paper) != 2:
        return False
    stills = still_set(hold, stands) - {((0, 0),) * len(hold)}
    right = [("still", row) for row in stills] if stills else [("table", table_by_the_words(p, hold, stands))]
    return spelled(paper) in map(spelled, right)


def small_holds(name, times=6):
    """(p, posts, stands, thing, hold) of all holds of small things."""
    for p, posts, rows in small_things(name, times):
        stands = lot(p, posts, rows)
        for hold in all_of((0, 1), posts):
            yield p, posts, stands, Thing(p, rows), hold


def hold_samples(name, times=3):
    """(source, p, posts, rows, thing, hold) of 0 to 10 posts; about as many holds stand as don't."""
    for source, p, posts, rows in thing_samples(name, times):
        yield source, p, posts, rows, Thing(p, tuple(rows)), any_hold(source, posts)
        yield source, p, posts, rows, Thing(p, tuple(rows)), holds.mended(Thing(p, tuple(rows)), (0,) * posts)[0]


class Holding(Told):
    def refuses(self, hand, asked, *told):
        Told.refuses(self, Still, "hand", hand, asked, *told)


class IsHold(unittest.TestCase):
    def says(self, truth, posts, thing):
        self.assertIs(kept_as_is(self, holds.is_hold, posts, thing), truth)

    def test_all_holds(self):
        for posts in range(11):
            for hold in all_of((0, 1), posts) if posts < 8 else ((0,) * posts, (1,) * posts, (0,) * (posts - 1) + (1,)):
                for other in range(11):
                    self.says(posts == other, other, hold)

    def test_one_thing_otherwise(self):
        source = dice("holds otherwise")
        for posts in range(11):
            hold = any_hold(source, posts)
            for thing in one_otherwise(hold):
                truth = type(thing) is tuple and len(thing) == posts
                self.says(truth and all(type(side) is int and side in (0, 1) for side in thing), posts, thing)

    def test_truths_and_other_numbers(self):
        for wrong in (True, False, 2, -1, 3, 10 ** 59, "0", None, (), (0,), [0]):
            for posts in range(1, 11):
                for at in range(posts):
                    self.says(False, posts, (0,) * at + (wrong,) + (1,) * (posts - at - 1))

    def test_anything(self):
        for posts in range(11):
            for thing in odd_things() + [Thing(2, ()), spring(5, 1), [0] * posts, "0" * posts]:
                truth = type(thing) is tuple and len(thing) == posts
                self.says(truth and all(spelled(side) in ("0", "1") for side in thing), posts, thing)

    def test_what_takes_for_ever_to_go_through(self):
        for wide in (endless(tuple, 2), endless(list, 2), endless(tuple, 1000)):
            self.assertIs(holds.is_hold(len(wide), wide), False)
            self.assertIs(holds.is_hold(1, (wide,)), False)


class Stands(Holding):
    def test_told_ones(self):
        self.assertIs(holds.stands(spring(5, 2), (0,)), True)
        self.assertIs(holds.stands(spring(5, 2), (1,)), True)
        self.assertIs(holds.stands(spring(5, 0), (1,)), False)
        self.assertIs(holds.stands(knot(5, 3), (0, 0, 1)), False)
        self.assertIs(holds.stands(knot(5, 3), (0, 1, 1)), True)
        self.assertEqual(holds.still_hands(spring(5, 0), (1,)), [((1, 0),)])
        self.assertEqual(holds.still_hands(knot(5, 3), (0, 0, 1)), [((0, 1), (0, 4), (0, 0))])
        self.assertEqual(holds.all_holds(knot(5, 3)), [(0, 1, 1), (1, 0, 1), (1, 1, 0)])
        self.assertEqual(holds.all_holds(spring(5, 2)), [(0,), (1,)])
        self.assertEqual(holds.all_holds(lever(5, 2)), [(0, 1), (1, 0)])
        self.assertEqual(holds.all_holds(lever(5, 0)), [(0, 1)])

    def test_going_through_all_stands(self):
        for p, posts, stands, thing, hold in small_holds("stands"):
            truth = stands_by_counting(p, hold, stands)
            stills = still_set(hold, stands)
            self.assertIs(truth, len(stills) == 1)
            self.assertIs(kept_as_is(self, holds.stands, thing, hold), truth)
            told = kept_as_is(self, holds.still_hands, thing, hold)
            self.is_plain(told, p, posts)
            self.assertEqual(told, plain_of(stills))
            self.assertEqual(lot(p, posts, told), stills)

    def test_all_holds_of_small_things(self):
        for p, posts, rows in small_things("all holds"):
            stands = lot(p, posts, rows)
            told = kept_as_is(self, holds.all_holds, Thing(p, rows))
            found = [hold for hold in all_of((0, 1), posts) if len(still_set(hold, stands)) == 1]
            self.assertEqual(spelled(told), spelled(found))
            self.assertGreater(len(found), 0)
            self.is_new_each_time(holds.all_holds, Thing(p, rows))

    def test_many_posts(self):
        for source, p, posts, rows, thing, hold in hold_samples("many posts"):
            free = rank(p, [held(hold, row) for row in rows])
            self.assertIs(kept_as_is(self, holds.stands, thing, hold), free == posts)
            told = kept_as_is(self, holds.still_hands, thing, hold)
            self.is_plain(told, p, posts)
            self.assertEqual(len(told), posts - free)
            for row in told:
                self.assertTrue(thing.has(row))
                self.assertFalse(any(held(hold, row)))
            self.is_new_each_time(holds.still_hands, thing, hold)

    def test_all_holds_of_many_posts(self):
        source = dice("all holds of many")
        for p in PRIMES:
            for posts in (6, 8, 10):
                rows = table_rows(p, any_hold(source, posts), any_table(source, p, posts, posts == 8))
                thing = Thing(p, tuple(rows))
                told = holds.all_holds(thing)
                self.is_new_each_time(holds.all_holds, thing)
                self.assertEqual(told, [hold for hold in all_of((0, 1), posts) if holds.stands(thing, hold)])
                for hold in source.sample(all_of((0, 1), posts), 60):
                    self.assertIs(hold in told, rank(p, [held(hold, row) for row in rows]) == posts)

    def test_all_holds_of_ten_posts_with_each_side_alone(self):
        for p in PRIMES:
            for side in (0, 1):
                noughts = ((0,) * 10,) * 10
                self.assertEqual(holds.all_holds(by_table(p, (side,) * 10, noughts)), [(side,) * 10])
            ones = tuple(tuple(int(k == j) for j in range(10)) for k in range(10))
            self.assertEqual(holds.all_holds(by_table(p, (0,) * 10, ones)), all_of((0, 1), 10))

    def test_without_posts(self):
        for p in PRIMES:
            thing = Thing(p, ())
            self.assertIs(holds.stands(thing, ()), True)
            self.assertEqual(holds.still_hands(thing, ()), [])
            self.assertEqual(holds.all_holds(thing), [()])
            self.assertEqual(holds.table(thing, ()), ())
            self.assertEqual(holds.read(thing, (), ()), ())
            self.assertEqual(holds.mended(thing, ()), ((), ()))
            self.assertEqual(holds.hold_paper(thing, ()), ("table", ()))
            self.is_new_each_time(holds.still_hands, thing, ())
            self.is_new_each_time(holds.all_holds, thing)


class Reading(Holding):
    def test_told_ones(self):
        self.assertEqual(holds.table(spring(5, 2), (0,)), ((2,),))
        self.assertEqual(holds.table(spring(5, 2), (1,)), ((2,),))
        self.assertEqual(holds.table(spring(7, 2), (1,)), ((3,),))
        self.assertEqual(holds.table(lever(5, 2), (0, 1)), ((0, 3), (3, 0)))
        self.assertEqual(holds.read(spring(7, 2), (0,), (3,)), ((3, 6),))
        self.assertEqual(holds.read(spring(7, 2), (1,), (3,)), ((5, 3),))
        self.assertEqual(holds.read(knot(5, 3), (1, 0, 1), (1, 2, 3)), ((2, 1), (2, 1), (2, 3)))
        self.refuses(((1, 0),), holds.table, spring(7, 0), (1,))
        self.refuses(((1, 0),), holds.read, spring(7, 0), (1,), (0,))
        self.refuses(((1, 0), (0, 0), (6, 0)), holds.table, ring(7, 3), (1, 1, 1))

    def test_going_through_all_stands(self):
        for p, posts, stands, thing, hold in small_holds("reading", 3):
            stills = plain_of(still_set(hold, stands))
            if stills:
                self.refuses(stills[0], holds.table, thing, hold)
                for numbers in ((0,) * posts, (p - 1,) * posts):
                    self.refuses(stills[0], holds.read, thing, hold, numbers)
                continue
            told = kept_as_is(self, holds.table, thing, hold)
            self.assertEqual(spelled(told), spelled(table_by_the_words(p, hold, stands)))
            self.assertEqual(told, tuple(zip(*told)))
            by_numbers = {held(hold, row): row for row in stands}
            for numbers in all_of(range(p), posts):
                self.assertEqual(spelled(holds.read(thing, hold, numbers)), spelled(by_numbers[numbers]))

    def test_many_posts(self):
        standing = 0
        for source, p, posts, rows, thing, hold in hold_samples("read many"):
            numbers = tuple(source.randrange(p) for _ in hold)
            stills = holds.still_hands(thing, hold)
            if stills:
                self.refuses(stills[0], holds.table, thing, hold)
                self.refuses(stills[0], holds.read, thing, hold, numbers)
                continue
            standing += 1
            row = kept_as_is(self, holds.read, thing, hold, numbers)
            self.is_list_of_rows([row], p, posts)
            self.assertEqual(held(hold, row), numbers)
            self.assertTrue(thing.has(row))
            told = kept_as_is(self, holds.table, thing, hold)
            self.assertIs(type(told), tuple)
            self.assertEqual([(type(one), len(one)) for one in told], [(tuple, posts)] * posts)
            self.assertTrue(all(type(number) is int and 0 <= number < p for one in told for number in one))
            self.assertEqual(told, tuple(zip(*told)))
            for one in table_rows(p, hold, told):
                self.assertTrue(thing.has(one))
            self.assertEqual(mixed(p, posts, numbers, table_rows(p, hold, told)), row)
        self.assertGreater(standing, 200)


class Papers(Holding):
    def test_told_ones(self):
        self.assertEqual(holds.hold_paper(spring(5, 2), (0,)), ("table", ((2,),)))
        word, row = holds.hold_paper(spring(5, 0), (1,))
        self.assertEqual((word, row[0][1]), ("still", 0))
        self.assertIs(holds.paper_holds(spring(5, 0), (1,), ("still", ((3, 0),))), True)
        self.assertIs(holds.paper_holds(spring(5, 0), (1,), ("still", ((0, 0),))), False)

    def is_right(self, p, posts, thing, hold, standing):
        paper = kept_as_is(self, holds.hold_paper, thing, hold)
        self.assertIs(type(paper), tuple)
        word, shown = paper
        if standing:
            self.assertEqual(spelled(paper), spelled(("table", holds.table(thing, hold))))
        else:
            self.assertEqual(word, "still")
            self.is_list_of_rows([shown], p, posts)
            self.assertTrue(thing.has(shown) and not any(held(hold, shown)) and any(map(any, shown)))
        self.assertIs(kept_as_is(self, holds.paper_holds, thing, hold, paper), True)

    def test_of_small_things(self):
        for p, posts, stands, thing, hold in small_holds("papers"):
            self.is_right(p, posts, thing, hold, len(still_set(hold, stands)) == 1)

    def test_of_many_posts(self):
        for source, p, posts, rows, thing, hold in hold_samples("papers of many"):
            self.is_right(p, posts, thing, hold, rank(p, [held(hold, row) for row in rows]) == posts)


class Judge(Holding):
    def says(self, truth, thing, hold, paper):
        self.assertIs(kept_as_is(self, holds.paper_holds, thing, hold, paper), truth, spelled(paper))

    def test_all_tables_and_all_rows_whoever_made_them(self):
        for p, posts, stands, thing, hold in small_holds("all papers", 0):
            if p ** posts > 9 or posts > 2:
                continue
            stills = still_set(hold, stands) - {((0, 0),) * posts}
            right = [] if stills else [table_by_the_words(p, hold, stands)]
            for table in all_of(all_of(range(p), posts), posts):
                self.assertIs(holds.paper_holds(thing, hold, ("table", table)), table in right)
            for row in all_rows(p, posts):
                self.assertIs(holds.paper_holds(thing, hold, ("still", row)), row in stills)

    def test_never_both(self):
        for p, posts, stands, thing, hold in small_holds("both", 3):
            stills = still_set(hold, stands) - {((0, 0),) * posts}
            for row in stands:
                self.assertIs(holds.paper_holds(thing, hold, ("still", row)), row in stills)
            tables = [table_by_the_words(p, other, stands) for other in holds.all_holds(thing)]
            if not stills:
                tables.append(table_by_the_words(p, hold, stands))
            right = [table for table in tables if not stills and table == tables[-1]]
            for table in tables:
                self.assertIs(holds.paper_holds(thing, hold, ("table", table)), table in right)

    def test_tables_with_something_otherwise(self):
        for source, p, posts, rows, thing, hold in hold_samples("tables otherwise", 1):
            word, table = paper = holds.hold_paper(thing, hold)
            if word != "table" or posts > 5:
                continue
            for other in one_otherwise(paper):
                self.says(not unalike(other, paper), thing, hold, other)
            self.says(False, thing, hold, ("still", table))
            if posts:
                self.says(False, thing, hold, ("table", table[:-1]))
                self.says(False, thing, hold, ("table", table + table[-1:]))
                self.says(False, thing, hold, ("table", tuple(row[:-1] for row in table)))
                self.says(False, thing, hold, ("table", tuple(row + (0,) for row in table)))
                self.says(False, thing, hold, ("table", tuple(table_rows(p, hold, table))))

    def test_one_number_of_the_table_otherwise(self):
        for source, p, posts, rows, thing, hold in hold_samples("one number", 1):
            word, table = holds.hold_paper(thing, hold)
            if word != "table" or not posts:
                continue
            for _ in range(5):
                k, j = source.randrange(posts), source.randrange(posts)
                other = [list(row) for row in table]
                other[k][j] = (other[k][j] + source.randrange(1, p)) % p
                self.says(False, thing, hold, ("table", tuple(map(tuple, other))))
                other[j][k] = other[k][j]
                self.says(False, thing, hold, ("table", tuple(map(tuple, other))))
                for wrong in (table[k][j] + p, table[k][j] - p, bool(table[k][j]), str(table[k][j]), None, [0]):
                    other[k][j] = other[j][k] = wrong
                    self.says(False, thing, hold, ("table", tuple(map(tuple, other))))

    def test_still_hands_with_something_otherwise(self):
        rights = 0
        for source, p, posts, rows, thing, hold in hold_samples("still otherwise", 2):
            stills = holds.still_hands(thing, hold)
            if not stills or p ** posts > 200:
                continue
            row = mixed(p, posts, [source.randrange(1, p), *[source.randrange(p) for _ in stills[1:]]], stills)
            self.says(True, thing, hold, ("still", row))
            for other in one_otherwise(("still", row)):
                truth = is_right_paper(p, hold, lot(p, posts, rows), other)
                self.says(truth, thing, hold, other)
                rights += truth
            for wrong in (("table", row), ("still", ((0, 0),) * posts), ("still", row + ((0, 0),)), ("still", (row,))):
                self.says(False, thing, hold, wrong)
        self.assertGreater(rights, 20)

    def test_noughts_are_no_still_hand(self):
        for source, p, posts, rows, thing, hold in hold_samples("noughts", 1):
            self.says(False, thing, hold, ("still", ((0, 0),) * posts))

    def test_still_hands_of_another_hold(self):
        seen = 0
        for source, p, posts, rows, thing, hold in hold_samples("another hold", 2):
            for post in range(posts):
                other = hold[:post] + (1 - hold[post],) + hold[post + 1:]
                for row in holds.still_hands(thing, other):
                    self.says(not any(held(hold, row)), thing, hold, ("still", row))
                    seen += any(held(hold, row))
        self.assertGreater(seen, 20)

    def test_tables_of_another_hold(self):
        for source, p, posts, rows, thing, hold in hold_samples("another table", 1):
            word, right = holds.hold_paper(thing, hold)
            for other in {any_hold(source, posts) for _ in range(4)}:
                shown, table = holds.hold_paper(thing, other)
                if shown == "table":
                    self.says(word == "table" and right == table, thing, hold, ("table", table))

    def test_rows_that_are_no_stands(self):
        for source, p, posts, rows, thing, hold in hold_samples("no stands", 2):
            row = tuple(tuple(0 if side == hold[post] else number for side, number in enumerate(pair))
                        for post, pair in enumerate(any_row(source, p, posts)))
            self.says(any(map(any, row)) and thing.has(row), thing, hold, ("still", row))

    def test_anything(self):
        things = [Thing(3, ()), spring(5, 0), spring(2, 1), knot(3, 3), lever(13, 0)]
        for thing in things:
            for hold in all_of((0, 1), thing.posts()):
                word, shown = holds.hold_paper(thing, hold)
                stands = lot(thing.p(), thing.posts(), thing.rows())
                for odd in odd_things() + things + [[word, shown]]:
                    self.says(False, thing, hold, odd)
                    self.says(False, thing, hold, (odd, shown))
                    self.says(False, thing, hold, (word, shown, odd))
                    for paper in (("table", odd), ("still", odd), ("table", (odd,)), ("still", (odd,))):
                        self.says(is_right_paper(thing.p(), hold, stands, paper), thing, hold, paper)

    def test_what_takes_for_ever_to_go_through(self):
        thing = knot(5, 2)
        for wide in (endless(tuple, 2), endless(list, 2), endless(tuple, 1000)):
            for paper in (wide, ("table", wide), ("still", wide), (wide, wide), (wide, ()), ("still", (wide, wide)),
                          ("table", (wide, wide)), ("table", ((wide, wide), (wide, wide)))):
                self.assertIs(holds.paper_holds(thing, (0, 1), paper), False)


class Mended(Holding):
    def test_told_ones(self):
        self.assertEqual(holds.mended(knot(5, 3), (0, 0, 0)), ((1, 1, 0), (0, 1)))
        self.assertEqual(holds.mended(ring(5, 3), (1, 1, 1)), ((0, 0, 1), (0, 1)))
        self.assertEqual(holds.mended(ring(5, 3), (0, 0, 0)), ((1, 0, 0), (0,)))
        self.assertEqual(holds.mended(spring(5, 0), (1,)), ((0,), (0,)))
        self.assertEqual(holds.mended(spring(5, 1), (1,)), ((1,), ()))

    def test_step_by_step(self):
        for p, posts, stands, thing, hold in small_holds("mended"):
            told = kept_as_is(self, holds.mended, thing, hold)
            self.assertEqual(spelled(told), spelled(mended_by_the_words(hold, stands)))
            self.assertTrue(stands_by_counting(p, told[0], stands))
            if len(still_set(hold, stands)) == 1:
                self.assertEqual(spelled(told), spelled((hold, ())))

    def test_many_posts(self):
        exchanges = 0
        for source, p, posts, rows, thing, hold in hold_samples("mended many"):
            told, found = kept_as_is(self, holds.mended, thing, hold)
            now, posts_so_far = hold, []
            while holds.still_hands(thing, now):
                stills = holds.still_hands(thing, now)
                least = min(post for row in stills for post in range(posts) if row[post][1 - now[post]])
                now = now[:least] + (1 - now[least],) + now[least + 1:]
                posts_so_far.append(least)
                self.assertEqual(len(holds.still_hands(thing, now)), len(stills) - 1)
            self.assertEqual(spelled((told, found)), spelled((now, tuple(posts_so_far))))
            self.assertEqual(rank(p, [held(told, row) for row in rows]), posts)
            self.assertEqual(spelled(holds.mended(thing, told)), spelled((told, ())))
            exchanges += len(found)
        self.assertGreater(exchanges, 50)


if __name__ == "__main__":
    unittest.main()
