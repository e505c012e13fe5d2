import unittest

from fairposts import gadgets, holds
from fairposts.things import Thing
from tests.helper import (
    LAWS, PRIMES, all_of, all_rows, all_tables, all_thing_rows, any_hold, any_row, any_table, dice, endless, is_among,
    is_gadget_by_the_words, kept_as_is, mixed, odd_things, one_otherwise, spelled, table_rows, unalike,
)


def told_gadgets():
    """(word, p, number, posts) of all gadgets but those by a table."""
    for p in PRIMES:
        for k in range(p):
            yield "spring", p, k, 1
            yield "lever", p, k, 2
        for many in range(2, 11):
            yield "knot", p, many, many
            yield "ring", p, many, many


MAKERS = {"spring": gadgets.spring, "lever": gadgets.lever, "knot": gadgets.knot, "ring": gadgets.ring}


def a_stand(source, p, word, number):
    """A made-up row that keeps the law of the gadget."""
    if word == "spring":
        push = source.randrange(p)
        return ((push, number * push % p),)
    if word == "lever":
        push, answer = source.randrange(p), source.randrange(p)
        return ((push, -number * answer % p), (number * push % p, answer))
    alike = source.randrange(p)
    numbers = [source.randrange(p) for _ in range(number - 1)]
    numbers.append(-sum(numbers) % p)
    return tuple((alike, other) if word == "knot" else (other, alike) for other in numbers)


class ToldThings(unittest.TestCase):
    def test_told_ones(self):
        self.assertEqual(gadgets.spring(5, 3).rows(), (((1, 3),),))
        self.assertEqual(gadgets.lever(5, 2).rows(), (((1, 0), (2, 0)), ((0, 1), (0, 2))))
        self.assertEqual(gadgets.lever(5, 0).rows(), (((1, 0), (0, 0)), ((0, 0), (0, 1))))
        self.assertEqual(gadgets.knot(5, 2).rows(), (((1, 0), (1, 0)), ((0, 1), (0, 4))))
        self.assertEqual(gadgets.ring(5, 2).rows(), (((1, 0), (4, 0)), ((0, 1), (0, 1))))
        self.assertEqual(gadgets.knot(3, 3).rows(), (((1, 0),) * 3, ((0, 1), (0, 0), (0, 2)), ((0, 0), (0, 1), (0, 2))))

    def test_all_rows(self):
        for word, p, number, posts in told_gadgets():
            if p ** posts > 40:
                continue
            thing = MAKERS[word](p, number)
            for row in all_rows(p, posts):
                self.assertIs(thing.has(row), LAWS[word](p, number, row), (word, p, number, row))

    def test_many_posts(self):
        source = dice("gadgets")
        for word, p, number, posts in told_gadgets():
            thing = kept_as_is(self, MAKERS[word], p, number)
            self.assertIs(type(thing), Thing)
            self.assertEqual((thing.p(), thing.posts()), (p, posts))
            for row in thing.rows():
                self.assertTrue(LAWS[word](p, number, row))
            for _ in range(3):
                row = a_stand(source, p, word, number)
                self.assertTrue(LAWS[word](p, number, row))
                self.assertIs(thing.has(row), True)
                row = any_row(source, p, posts)
                self.assertIs(thing.has(row), LAWS[word](p, number, row))

    def test_made_and_width(self):
        for word, p, number, posts in told_gadgets():
            thing = kept_as_is(self, gadgets.made, p, (word, number))
            self.assertIs(type(thing), Thing)
            self.assertEqual(thing, MAKERS[word](p, number))
            self.assertFalse(unalike(kept_as_is(self, gadgets.width, (word, number)), posts))


class ByTable(unittest.TestCase):
    def is_right(self, p, hold, table):
        posts = len(hold)
        thing = kept_as_is(self, gadgets.by_table, p, hold, table)
        self.assertIs(type(thing), Thing)
        self.assertEqual((thing.p(), thing.posts()), (p, posts))
        for row in table_rows(p, hold, table):
            self.assertTrue(is_among(p, posts, thing.rows(), row))
        self.assertIs(holds.stands(thing, hold), True)
        self.assertFalse(unalike(holds.table(thing, hold), table))
        self.assertEqual(gadgets.made(p, ("table", hold, table)), thing)
        self.assertFalse(unalike(gadgets.width(("table", hold, table)), posts))
        self.assertEqual(gadgets.by_table(*thing.told()), thing)
        return thing

    def test_told_ones(self):
        self.assertEqual(gadgets.by_table(5, (0,), ((3,),)), gadgets.spring(5, 3))
        self.assertEqual(gadgets.by_table(5, (1,), ((3,),)).rows(), (((1, 3),),))
        self.assertEqual(gadgets.by_table(7, (1,), ((3,),)).rows(), (((1, 2),),))
        self.assertEqual(gadgets.by_table(5, (0, 1), ((0, 3), (3, 0))), gadgets.lever(5, 2))
        self.assertEqual(gadgets.by_table(5, (), ()), Thing(5, ()))

    def test_each_hold_and_all_tables(self):
        for p, posts in ((2, 0), (2, 1), (2, 2), (2, 3), (3, 0), (3, 1), (3, 2), (5, 1), (13, 1)):
            found = set()
            for hold in all_of((0, 1), posts):
                tables = list(all_tables(p, posts))
                things = [self.is_right(p, hold, table) for table in tables]
                self.assertEqual(len({thing.rows() for thing in things}), len(tables))
                found.update(thing.told() for thing in things)
            self.assertEqual(len(found), len(all_thing_rows(p, posts)))

    def test_each_hold_and_made_up_tables(self):
        source = dice("by table")
        for p in PRIMES:
            for posts in range(6):
                for hold in all_of((0, 1), posts):
                    self.is_right(p, hold, any_table(source, p, posts, source.randrange(2)))
            for posts in range(6, 11):
                for _ in range(3):
                    self.is_right(p, any_hold(source, posts), any_table(source, p, posts, source.randrange(2)))

    def test_equal_just_where_told_forms_are(self):
        source = dice("told forms")
        for p in PRIMES:
            for posts in range(11):
                one = gadgets.by_table(p, any_hold(source, posts), any_table(source, p, posts))
                rows = [mixed(p, posts, (1, 1), (row, one.rows()[-1])) for row in one.rows()[:-1]] + [*one.rows()[-1:]]
                for other in (gadgets.by_table(p, any_hold(source, posts), any_table(source, p, posts)),
                              Thing(p, tuple(rows)), gadgets.by_table(*one.told())):
                    self.assertIs(one.told() == other.told(), one == other)


class IsGadget(unittest.TestCase):
    def says(self, truth, p, thing):
        self.assertIs(kept_as_is(self, gadgets.is_gadget, p, thing), truth, (p, spelled(thing)))

    def test_the_five_words(self):
        for word, p, number, posts in told_gadgets():
            self.says(True, p, (word, number))
        source = dice("is gadget")
        for p in PRIMES:
            for posts in range(11):
                self.says(True, p, ("table", any_hold(source, posts), any_table(source, p, posts)))

    def test_numbers_about_their_bounds(self):
        for p in PRIMES:
            for number in [*range(-20, 40), 10 ** 59, -(10 ** 59), 2 + 2 ** 64, 2 ** 32]:
                self.says(0 <= number < p, p, ("spring", number))
                self.says(0 <= number < p, p, ("lever", number))
                self.says(2 <= number <= 10, p, ("knot", number))
                self.says(2 <= number <= 10, p, ("ring", number))
                self.says(0 <= number < p, p, ("table", (0,), ((number,),)))
                self.says(0 <= number < p, p, ("table", (0, 1), ((1, number), (number, 0))))
                self.says(0 <= number < 2, p, ("table", (number,), ((0,),)))

    def test_one_thing_otherwise(self):
        source = dice("gadget otherwise")
        rights = 0
        for p in PRIMES:
            told = [(word, k) for word in ("spring", "lever") for k in {0, 1, p - 1}]
            told += [(word, many) for word in ("knot", "ring") for many in (2, 3, 9, 10)]
            told += [("table", any_hold(source, posts), any_table(source, p, posts)) for posts in (0, 1, 2, 3)]
            for gadget in told:
                self.says(True, p, gadget)
                for thing in one_otherwise(gadget):
                    truth = is_gadget_by_the_words(p, thing)
                    self.says(truth, p, thing)
                    rights += truth
        self.assertGreater(rights, 100)

    def test_tables_that_are_not_their_own_mirror(self):
        source = dice("mirrors")
        for p in PRIMES:
            for posts in range(2, 11):
                hold, table = any_hold(source, posts), [list(row) for row in any_table(source, p, posts)]
                k, j = source.sample(range(posts), 2)
                table[k][j] = (table[k][j] + source.randrange(1, p)) % p
                self.says(False, p, ("table", hold, tuple(tuple(row) for row in table)))
        for table in all_of(all_of(range(3), 2), 2):
            self.says(table[0][1] == table[1][0], 3, ("table", (1, 0), table))

    def test_of_none_of_ten_and_of_eleven_posts(self):
        for p in PRIMES:
            self.says(True, p, ("table", (), ()))
            self.says(False, p, ("table", ()))
            self.says(False, p, ("table", (), ((),)))
            for posts in range(15):
                noughts = ((0,) * posts,) * posts
                for side in (0, 1):
                    self.says(posts <= 10, p, ("table", (side,) * posts, noughts))
                self.says(False, p, ("table", (0,) * (posts + 1), noughts))
                self.says(False, p, ("table", (0,) * posts, noughts + ((0,) * posts,)))
                self.says(False, p, ("table", (0,) * (posts + 1), noughts + ((0,) * posts,)))

    def test_a_truth_is_no_number(self):
        for p in PRIMES:
            for truth in (True, False):
                self.says(False, p, ("spring", truth))
                self.says(False, p, ("lever", truth))
                self.says(False, p, ("knot", truth))
                self.says(False, p, ("table", (truth,), ((0,),)))
                self.says(False, p, ("table", (0,), ((truth,),)))
                self.says(False, p, ("table", (0, 0), ((0, truth), (int(truth), 0))))

    def test_anything(self):
        words = ["spring", "lever", "knot", "ring", "table", "Spring", "tie", "", None, 0, ("spring",), ["spring"], {}]
        for p in PRIMES:
            for thing in odd_things() + [Thing(p, ()), gadgets.spring(p, 1), gadgets.spring(p, 1).told()]:
                self.says(False, p, thing)
                self.says(False, p, (thing, 2))
                self.says(False, p, (thing, (), ()))
                for word in words:
                    self.says(False, p, (word, thing))
                    self.says(False, p, (word, thing, ()))
                    self.says(False, p, (word, (), thing))
                    self.says(False, p, (word, (0,), ((thing,),)))
                    self.says(False, p, (word, 2, thing))
            for word in words[5:]:
                self.says(False, p, (word, 2))
                self.says(False, p, (word, (0,), ((0,),)))

    def test_what_takes_for_ever_to_go_through(self):
        wide = [endless(tuple, 2), endless(list, 2), endless(tuple, 1000), endless(tuple, 10)]
        for inner in wide:
            for thing in (inner, ("knot", inner), (inner, 2), ("table", inner, inner), ("table", (0,), (inner,)),
                          ("table", (0,) * len(inner), inner), ("table", (0,), ((inner,),)), (inner, (), ())):
                self.assertIs(gadgets.is_gadget(3, thing), False)


if __name__ == "__main__":
    unittest.main()
