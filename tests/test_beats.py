import itertools
import unittest
from unittest import mock

from fairposts import beats
from fairposts.errors import TooMany
from fairposts.gadgets import by_table, knot, lever, spring
from fairposts.holds import all_holds
from fairposts.things import Thing
from tests.helper import (
    PRIMES, Told, all_of, any_hold, any_table, dice, held, kept_as_is, lot, small_things, spelled, still_set,
    thing_samples,
)


def any_wires(source, posts):
    """Made-up wires: to none, to itself, two to one, in a ring."""
    if source.randrange(4) == 0:
        return tuple(source.sample(range(posts), posts))
    return tuple(source.choice((None, post, *range(posts), *range(posts))) for post in range(posts))


def beat_samples(name, times=2):
    """(source, p, posts, thing, hold, wires, numbers) of 0 to 10 posts."""
    for source, p, posts, rows in thing_samples(name, times):
        thing = Thing(p, tuple(rows))
        hold = source.choice(all_holds(thing))
        yield source, p, posts, thing, hold, any_wires(source, posts), tuple(source.randrange(p) for _ in range(posts))


def round_by_the_words(told, numbers, most):
    """(tail, length) beat by beat, None where they are more together; told is what is told of one beat."""
    gone = [numbers]
    while len(gone) <= most:
        gone.append(beats.stepped(*told, gone[-1]))
        if gone[-1] in gone[:-1]:
            tail = gone.index(gone[-1])
            return tail, len(gone) - 1 - tail
    return None


class Stepped(Told):
    def test_told_ones(self):
        self.assertEqual(beats.stepped(spring(7, 2), (0,), (0,), (3,)), (6,))
        self.assertEqual(beats.stepped(spring(7, 2), (1,), (0,), (3,)), (5,))
        self.assertEqual(beats.stepped(spring(7, 2), (0,), (None,), (3,)), (3,))
        self.assertEqual(beats.stepped(lever(7, 2), (0, 1), (1, 0), (3, 1)), (6, 5))
        self.assertEqual(beats.stepped(lever(7, 2), (0, 1), (1, 1), (3, 1)), (6, 6))
        self.assertEqual(beats.stepped(lever(7, 2), (0, 1), (None, 0), (3, 1)), (3, 5))
        self.assertEqual(beats.stepped(Thing(7, ()), (), (), ()), ())

    def test_going_through_all_stands(self):
        for p, posts, rows in small_things("stepped", 2):
            thing, stands = Thing(p, rows), lot(p, posts, rows)
            source = dice(f"wires {p} {rows}")
            for hold in all_of((0, 1), posts):
                if len(still_set(hold, stands)) > 1:
                    continue
                by_numbers = {held(hold, row): row for row in stands}
                wires = any_wires(source, posts)
                for numbers in source.sample(sorted(by_numbers), min(6, len(by_numbers))):
                    row = by_numbers[numbers]
                    right = []
                    for post, wire in enumerate(wires):
                        right.append(numbers[post] if wire is None else row[wire][{0: 1, 1: 0}[hold[wire]]])
                    told = kept_as_is(self, beats.stepped, thing, hold, wires, numbers)
                    self.assertEqual(spelled(told), spelled(tuple(right)))

    def test_all_wires_to_none(self):
        for source, p, posts, thing, hold, wires, numbers in beat_samples("none", 1):
            self.assertEqual(beats.stepped(thing, hold, (None,) * posts, numbers), numbers)
            self.assertEqual(beats.far(thing, hold, (None,) * posts, numbers, 10 ** 18), numbers)
            self.assertEqual(beats.round_of(thing, hold, (None,) * posts, numbers), (0, 1))

    def test_sums_to_sums_and_multiples_to_multiples(self):
        for source, p, posts, thing, hold, wires, numbers in beat_samples("sums"):
            other, scale = tuple(source.randrange(p) for _ in numbers), source.randrange(p)
            both = tuple((scale * a + b) % p for a, b in zip(numbers, other))
            for asked in (lambda held_ones: beats.stepped(thing, hold, wires, held_ones),
                          lambda held_ones: beats.far(thing, hold, wires, held_ones, 10 ** 17 + 9)):
                right = tuple((scale * a + b) % p for a, b in zip(asked(numbers), asked(other)))
                self.assertEqual(asked(both), right)


class Far(Told):
    def test_told_ones(self):
        self.assertEqual(beats.far(spring(7, 3), (0,), (0,), (1,), 6), (1,))
        self.assertEqual(beats.far(spring(7, 3), (0,), (0,), (1,), 10 ** 18), (pow(3, 10 ** 18, 7),))
        self.assertEqual(beats.far(Thing(5, ()), (), (), (), 10 ** 18), ())

    def test_few_beats_one_by_one(self):
        for source, p, posts, thing, hold, wires, numbers in beat_samples("few"):
            now = numbers
            for many in range(18):
                self.assertEqual(spelled(beats.far(thing, hold, wires, numbers, many)), spelled(now))
                now = beats.stepped(thing, hold, wires, now)
            kept_as_is(self, beats.far, thing, hold, wires, numbers, 7)

    def test_many_beats_cut_in_two(self):
        for source, p, posts, thing, hold, wires, numbers in beat_samples("cut", 1):
            for many in (10 ** 18, 10 ** 18 - 1, source.randrange(10 ** 18), 2 ** 59, 2 ** 59 - 1):
                first = source.randrange(many + 1)
                half = beats.far(thing, hold, wires, numbers, first)
                self.assertEqual(beats.far(thing, hold, wires, half, many - first),
                                 beats.far(thing, hold, wires, numbers, many))

    def test_no_beats(self):
        for source, p, posts, thing, hold, wires, numbers in beat_samples("no beats", 1):
            self.assertEqual(spelled(beats.far(thing, hold, wires, numbers, 0)), spelled(numbers))

    def test_round_and_round(self):
        seen = 0
        for source, p, posts, thing, hold, wires, numbers in beat_samples("round and round"):
            try:
                tail, length = beats.round_of(thing, hold, wires, numbers)
            except TooMany:
                continue
            seen += 1
            for many in (10 ** 18, source.randrange(3000, 10 ** 18)):
                self.assertEqual(beats.far(thing, hold, wires, numbers, many),
                                 beats.far(thing, hold, wires, numbers, tail + (many - tail) % length))
        self.assertGreater(seen, 60)


class Rounds(Told):
    def test_told_ones(self):
        self.assertEqual(beats.ROUNDS, 3000)
        self.assertEqual(beats.round_of(spring(7, 3), (0,), (0,), (1,)), (0, 6))
        self.assertEqual(beats.round_of(spring(7, 2), (0,), (0,), (1,)), (0, 3))
        self.assertEqual(beats.round_of(spring(7, 0), (0,), (0,), (1,)), (1, 1))
        self.assertEqual(beats.round_of(spring(7, 0), (0,), (0,), (0,)), (0, 1))
        self.assertEqual(beats.round_of(Thing(7, ()), (), (), ()), (0, 1))
        self.assertEqual(beats.round_of(knot(5, 2), (1, 0), (1, 0), (1, 2)), (0, 2))
        self.assertEqual(beats.round_of(knot(5, 2), (1, 0), (0, 1), (1, 2)), (0, 4))

    def test_beat_by_beat(self):
        tails, lengths = set(), set()
        for source, p, posts, thing, hold, wires, numbers in beat_samples("beat by beat", 4):
            if p ** posts > 3000:
                continue
            right = round_by_the_words((thing, hold, wires), numbers, 3000)
            told = kept_as_is(self, beats.round_of, thing, hold, wires, numbers)
            self.assertEqual(spelled(told), spelled(right))
            tails.add(told[0])
            lengths.add(told[1])
        self.assertGreater(len(tails), 2)
        self.assertGreater(len(lengths), 6)

    def test_all_numbers_and_wires_of_small_things(self):
        for p, posts in ((2, 2), (3, 2), (2, 3)):
            source = dice(f"small rounds {p} {posts}")
            for _ in range(6):
                thing = by_table(p, any_hold(source, posts), any_table(source, p, posts))
                hold = source.choice(all_holds(thing))
                for wires in itertools.product((None, *range(posts)), repeat=posts):
                    numbers = tuple(source.randrange(p) for _ in range(posts))
                    self.assertEqual(beats.round_of(thing, hold, wires, numbers),
                                     round_by_the_words((thing, hold, wires), numbers, 100))

    def test_noughts(self):
        for source, p, posts, thing, hold, wires, numbers in beat_samples("noughts", 1):
            self.assertEqual(beats.round_of(thing, hold, wires, (0,) * posts), (0, 1))

    def test_too_many_just_beyond_the_bound(self):
        for source, p, posts, thing, hold, wires, numbers in beat_samples("bound", 1):
            if p ** posts > 800:
                continue
            tail, length = beats.round_of(thing, hold, wires, numbers)
            for bound in (tail + length, tail + length + 1, 2 * (tail + length)):
                with mock.patch.object(beats, "ROUNDS", bound):
                    self.assertEqual(beats.round_of(thing, hold, wires, numbers), (tail, length))
            for bound in range(max(tail + length - 2, 0), tail + length):
                with mock.patch.object(beats, "ROUNDS", bound):
                    self.refuses(TooMany, "bound", bound, beats.round_of, thing, hold, wires, numbers)

    def test_too_many_of_many_posts(self):
        seen = [0, 0]
        for p in PRIMES:
            source = dice(f"long rounds {p}")
            for posts in (2, 3, 4, 10):
                for _ in range(2):
                    hold = any_hold(source, posts)
                    thing = by_table(p, hold, any_table(source, p, posts))
                    wires = tuple(source.sample(range(posts), posts))
                    numbers = tuple(source.randrange(p) for _ in range(posts))
                    now, most = numbers, {}
                    while now not in most and len(most) <= 3000:
                        most[now] = len(most)
                        now = beats.stepped(thing, hold, wires, now)
                    # Those that were gone through are as many as tail and length.
                    refused = len(most) > 3000
                    seen[refused] += 1
                    if refused:
                        self.refuses(TooMany, "bound", 3000, beats.round_of, thing, hold, wires, numbers)
                    else:
                        self.assertEqual(beats.round_of(thing, hold, wires, numbers),
                                         (most[now], len(most) - most[now]))
        self.assertGreater(min(seen), 5)


if __name__ == "__main__":
    unittest.main()
