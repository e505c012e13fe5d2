import unittest

from fairposts import rows
from tests.helper import PRIMES, all_rows, any_row, dice, endless, kept_as_is, met, mixed, odd_things


def put(row, post, pair):
    """The row with another thing at a post."""
    return row[:post] + (pair,) + row[post + 1:]


class IsRow(unittest.TestCase):
    def says(self, truth, p, posts, thing):
        self.assertIs(kept_as_is(self, rows.is_row, p, posts, thing), truth)

    def test_rows(self):
        source = dice("rows")
        for p in PRIMES:
            for posts in range(21):
                self.says(True, p, posts, any_row(source, p, posts))
                self.says(True, p, posts, ((0, 0),) * posts)
                self.says(True, p, posts, ((p - 1, p - 1),) * posts)

    def test_another_number_of_posts(self):
        source = dice("other posts")
        for p in PRIMES:
            for posts in range(21):
                row = any_row(source, p, posts)
                for other in range(23):
                    self.says(other == posts, p, other, row)
                self.says(False, p, posts, row + ((0, 0),))
                if posts:
                    self.says(False, p, posts, row[:-1])
                    self.says(False, p, posts, row[1:])

    def test_one_thing_otherwise(self):
        source = dice("otherwise")
        for p in PRIMES:
            for posts in (1, 2, 3, 10, 20):
                row = any_row(source, p, posts)
                for post in {0, posts // 2, posts - 1}:
                    for wrong in (p, p + 1, -1, 10 ** 59, True, False, "0", None, [0], (0,), {}, ""):
                        self.says(False, p, posts, put(row, post, (wrong, 0)))
                        self.says(False, p, posts, put(row, post, (0, wrong)))
                    for wrong in ([0, 0], (), (0,), (0, 0, 0), None, 0, "00", {0: 0, 1: 0}, True, ((0, 0), (0, 0))):
                        self.says(False, p, posts, put(row, post, wrong))

    def test_a_list_for_the_whole(self):
        for p in PRIMES:
            for posts in range(21):
                self.says(False, p, posts, [(0, 0)] * posts)

    def test_round_a_lesser_prime(self):
        for lesser, p in zip(PRIMES, PRIMES[1:]):
            self.says(True, p, 2, ((0, 0), (lesser, 0)))
            self.says(False, lesser, 2, ((0, 0), (lesser, 0)))
            self.says(False, lesser, 2, ((0, lesser), (0, 0)))
            self.says(True, lesser, 2, ((0, lesser - 1), (0, 0)))

    def test_anything(self):
        for p in PRIMES:
            for posts in range(4):
                for thing in odd_things():
                    self.says(False, p, posts, thing)
        self.says(True, 2, 0, ())
        for many in (2, 1000):
            self.assertIs(rows.is_row(2, many, endless(tuple, many)), False)
            self.assertIs(rows.is_row(2, many, endless(list, many)), False)
        for other in ([], {}, "", None, False, 0):
            self.says(False, 2, 0, other)


class Sums(unittest.TestCase):
    def test_nought(self):
        for posts in range(21):
            told = rows.nought(posts)
            self.assertEqual(told, tuple((0, 0) for _ in range(posts)))
            self.assertIs(rows.is_row(2, posts, told), True)

    def test_added(self):
        self.assertEqual(rows.added(5, (), ()), ())
        self.assertEqual(rows.added(5, ((1, 2), (3, 4)), ((3, 3), (4, 4))), ((4, 0), (2, 3)))
        source = dice("added")
        for p in PRIMES:
            for posts in range(21):
                one, other = any_row(source, p, posts), any_row(source, p, posts)
                told = kept_as_is(self, rows.added, p, one, other)
                self.assertEqual(told, mixed(p, posts, (1, 1), (one, other)))
                self.assertIs(rows.is_row(p, posts, told), True)
                self.assertEqual(told, rows.added(p, other, one))
                self.assertEqual(rows.added(p, one, rows.nought(posts)), one)

    def test_times(self):
        self.assertEqual(rows.times(5, 3, ()), ())
        self.assertEqual(rows.times(5, 3, ((1, 2), (0, 4))), ((3, 1), (0, 2)))
        source = dice("times")
        for p in PRIMES:
            for posts in range(21):
                row = any_row(source, p, posts)
                total = rows.nought(posts)
                for number in range(p):
                    told = kept_as_is(self, rows.times, p, number, row)
                    self.assertEqual(told, total)
                    self.assertIs(rows.is_row(p, posts, told), True)
                    total = rows.added(p, total, row)
                self.assertEqual(total, rows.nought(posts))

    def test_part(self):
        row = ((1, 2), (3, 4), (0, 1))
        self.assertEqual(rows.part(row, ()), ())
        self.assertEqual(rows.part((), ()), ())
        self.assertEqual(rows.part(row, (2, 0)), ((0, 1), (1, 2)))
        self.assertEqual(rows.part(row, (1, 1, 0, 1)), ((3, 4), (3, 4), (1, 2), (3, 4)))
        source = dice("part")
        for p in PRIMES:
            for posts in range(1, 21):
                row = any_row(source, p, posts)
                asked = tuple(source.randrange(posts) for _ in range(source.randrange(2 * posts)))
                told = kept_as_is(self, rows.part, row, asked)
                self.assertIs(rows.is_row(p, len(asked), told), True)
                for at, post in enumerate(asked):
                    self.assertEqual(told[at], row[post])
                self.assertEqual(rows.part(row, tuple(range(posts))), row)


class Meet(unittest.TestCase):
    def test_told_ones(self):
        self.assertEqual(rows.meet(5, (), ()), 0)
        self.assertEqual(rows.meet(5, ((1, 0),), ((0, 1),)), 1)
        self.assertEqual(rows.meet(5, ((0, 1),), ((1, 0),)), 4)
        self.assertEqual(rows.meet(7, ((1, 2), (3, 4)), ((5, 6), (0, 1))), 6)

    def test_post_by_post(self):
        source = dice("meet")
        for p in PRIMES:
            for posts in range(21):
                one, other = any_row(source, p, posts), any_row(source, p, posts)
                told = kept_as_is(self, rows.meet, p, one, other)
                self.assertIs(type(told), int)
                self.assertEqual(told, met(p, one, other))
                self.assertEqual(rows.meet(p, other, one), (0 - told) % p)

    def test_all_rows_of_one_post(self):
        for p in (2, 3, 5):
            for one in all_rows(p, 1):
                for other in all_rows(p, 1):
                    self.assertEqual(rows.meet(p, one, other), met(p, one, other))

    def test_itself_and_noughts(self):
        source = dice("itself")
        for p in PRIMES:
            for posts in range(21):
                row = any_row(source, p, posts)
                self.assertEqual(rows.meet(p, row, row), 0)
                self.assertEqual(rows.meet(p, row, rows.nought(posts)), 0)
                self.assertEqual(rows.meet(p, rows.nought(posts), row), 0)

    def test_sums_and_multiples_go_through(self):
        source = dice("through")
        for p in PRIMES:
            for posts in range(21):
                a, b, c = (any_row(source, p, posts) for _ in range(3))
                k = source.randrange(p)
                both = rows.added(p, a, b)
                self.assertEqual(rows.meet(p, both, c), (rows.meet(p, a, c) + rows.meet(p, b, c)) % p)
                self.assertEqual(rows.meet(p, c, both), (rows.meet(p, c, a) + rows.meet(p, c, b)) % p)
                self.assertEqual(rows.meet(p, rows.times(p, k, a), c), k * rows.meet(p, a, c) % p)
                self.assertEqual(rows.meet(p, c, rows.times(p, k, a)), k * rows.meet(p, c, a) % p)


if __name__ == "__main__":
    unittest.main()
