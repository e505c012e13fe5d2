import itertools
import unittest

from fairposts import rounds
from tests.helper import PRIMES, dice, endless, kept_as_is, odd_things


class Primes(unittest.TestCase):
    def test_told(self):
        self.assertEqual(rounds.PRIMES, (2, 3, 5, 7, 11, 13))
        self.assertIs(type(rounds.PRIMES), tuple)
        self.assertEqual(rounds.POSTS, 10)
        self.assertIs(type(rounds.POSTS), int)

    def test_whole_numbers(self):
        for number in range(-40, 400):
            told = rounds.is_prime(number)
            self.assertIs(told, number in (2, 3, 5, 7, 11, 13))

    def test_far_numbers(self):
        for number in (10 ** 59 + 2, 2 ** 190, -(10 ** 59), 2 + 2 ** 64, 3 - 2 ** 64, 10 ** 60 - 1):
            self.assertIs(rounds.is_prime(number), False)

    def test_anything(self):
        for thing in odd_things():
            if thing != 13:
                self.assertIs(kept_as_is(self, rounds.is_prime, thing), False)
        self.assertIs(rounds.is_prime(endless(tuple, 1000)), False)
        for thing in ("2", "13", [2], (2,), (2, 3, 5, 7, 11, 13), {2: 2}, True, None):
            self.assertIs(rounds.is_prime(thing), False)


class Round(unittest.TestCase):
    def test_each_number(self):
        for p in PRIMES:
            for number in range(-30, 30):
                self.assertIs(rounds.is_round(p, number), number in list(range(p)))

    def test_the_edges(self):
        for p in PRIMES:
            self.assertIs(rounds.is_round(p, -1), False)
            self.assertIs(rounds.is_round(p, 0), True)
            self.assertIs(rounds.is_round(p, p - 1), True)
            self.assertIs(rounds.is_round(p, p), False)
            self.assertIs(rounds.is_round(p, 10 ** 59), False)
            self.assertIs(rounds.is_round(p, -(10 ** 59)), False)

    def test_truths_are_no_numbers(self):
        for p in PRIMES:
            self.assertIs(rounds.is_round(p, True), False)
            self.assertIs(rounds.is_round(p, False), False)

    def test_anything(self):
        for p in PRIMES:
            for thing in odd_things():
                self.assertIs(kept_as_is(self, rounds.is_round, p, thing), False)
            self.assertIs(rounds.is_round(p, endless(list, 1000)), False)


class Inverse(unittest.TestCase):
    def test_makes_one(self):
        for p in PRIMES:
            for number in range(1, p):
                told = rounds.inverse(p, number)
                self.assertIs(type(told), int)
                self.assertIn(told, range(1, p))
                self.assertEqual(told * number % p, 1)
                self.assertEqual(rounds.inverse(p, told), number)

    def test_told_ones(self):
        self.assertEqual(rounds.inverse(2, 1), 1)
        self.assertEqual([rounds.inverse(5, k) for k in range(1, 5)], [1, 3, 2, 4])
        self.assertEqual([rounds.inverse(7, k) for k in range(1, 7)], [1, 4, 5, 2, 3, 6])


class Chosen(unittest.TestCase):
    def test_none(self):
        for p in PRIMES:
            self.assertEqual(rounds.chosen(p, 0, 0), ())

    def test_told_ones(self):
        self.assertEqual(rounds.chosen(2, 4, 1), (0, 0, 0, 1))
        self.assertEqual(rounds.chosen(2, 4, 8), (1, 0, 0, 0))
        self.assertEqual(rounds.chosen(5, 3, 7), (0, 1, 2))
        self.assertEqual(rounds.chosen(13, 2, 12), (0, 12))
        self.assertEqual(rounds.chosen(13, 2, 13), (1, 0))

    def test_first_last_and_between(self):
        source = dice("chosen")
        for p in PRIMES:
            for many in range(0, 41):
                last = p ** many - 1
                self.assertEqual(rounds.chosen(p, many, 0), (0,) * many)
                self.assertEqual(rounds.chosen(p, many, last), (p - 1,) * many)
                for number in [source.randint(0, last) for _ in range(5)]:
                    told = kept_as_is(self, rounds.chosen, p, many, number)
                    self.assertIs(type(told), tuple)
                    self.assertEqual(len(told), many)
                    self.assertTrue(all(type(figure) is int and 0 <= figure < p for figure in told))
                    self.assertEqual(sum(figure * p ** at for at, figure in enumerate(reversed(told))), number)

    def test_each_number_has_its_own_tuple_in_rising_order(self):
        for p, most in ((2, 8), (3, 5), (5, 4), (7, 3), (11, 3), (13, 3)):
            for many in range(most + 1):
                told = [rounds.chosen(p, many, number) for number in range(p ** many)]
                self.assertEqual(told, list(itertools.product(range(p), repeat=many)))


if __name__ == "__main__":
    unittest.main()
