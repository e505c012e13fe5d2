import unittest

from fairposts import spans
from tests.helper import (
    PRIMES, Told, all_rows, any_row, any_rows, dice, endless, first_of, flat, kept_as_is, lot, met, mixed, odd_things,
    other_span, unalike,
)

SMALL = ((2, 0), (2, 1), (2, 2), (2, 3), (3, 1), (3, 2), (5, 1), (7, 1))


def some_rows(source, p, posts):
    """Rows with noughts, rows told twice, sums and multiples among them, in any order."""
    found = any_rows(source, p, posts, source.randrange(posts + 2))
    for _ in range(source.randrange(3)):
        if found:
            found.append(source.choice(found))
            found.append(mixed(p, posts, [source.randrange(p) for _ in found], found))
    found += [((0, 0),) * posts] * source.randrange(2)
    source.shuffle(found)
    return found


def samples(name, times=3):
    """Some rows of 0 to 10 posts round each prime."""
    source = dice(name)
    for p in PRIMES:
        for posts in range(11):
            for _ in range(times):
                yield source, p, posts, some_rows(source, p, posts)


def small_samples(name):
    """Some rows of few posts, of which all rows can be gone through."""
    source = dice(name)
    for p, posts in SMALL:
        for many in range(2 * posts + 2):
            for _ in range(4):
                yield source, p, posts, any_rows(source, p, posts, many)


class Plain(Told):
    def test_told_ones(self):
        self.assertEqual(spans.plain(5, 1, [((2, 4),)]), [((1, 2),)])
        self.assertEqual(spans.plain(5, 1, [((0, 3),)]), [((0, 1),)])
        self.assertEqual(spans.plain(5, 1, [((1, 2),), ((0, 3),)]), [((1, 0),), ((0, 1),)])
        self.assertEqual(spans.plain(3, 2, [((0, 0), (0, 2)), ((1, 1), (1, 1))]), [((1, 1), (1, 0)), ((0, 0), (0, 1))])
        self.assertEqual(spans.plain(2, 2, [((0, 1), (1, 0)), ((1, 1), (0, 1))]), [((1, 0), (1, 1)), ((0, 1), (1, 0))])

    def test_of_none_and_of_noughts(self):
        for p in PRIMES:
            for posts in range(21):
                noughts = ((0, 0),) * posts
                for rows in ([], (), [noughts], (noughts, noughts)):
                    self.assertEqual(kept_as_is(self, spans.plain, p, posts, rows), [])
                    self.is_new_each_time(spans.plain, p, posts, rows)

    def test_begins_with_ones_in_rising_order(self):
        for source, p, posts, rows in samples("plain"):
            told = kept_as_is(self, spans.plain, p, posts, rows)
            self.is_plain(told, p, posts)
            self.assertEqual(kept_as_is(self, spans.plain, p, posts, tuple(rows)), told)
            self.assertEqual(spans.plain(p, posts, told), told)
            self.is_new_each_time(spans.plain, p, posts, rows)

    def test_the_same_of_all_that_span_the_same(self):
        for source, p, posts, rows in samples("same lot"):
            told = spans.plain(p, posts, rows)
            self.assertEqual(spans.plain(p, posts, other_span(source, p, posts, rows)), told)
            self.assertEqual(spans.plain(p, posts, other_span(source, p, posts, told)), told)
            self.assertEqual(spans.plain(p, posts, rows + rows[::-1]), told)

    def test_makes_each_row_again(self):
        for source, p, posts, rows in samples("again"):
            told = spans.plain(p, posts, rows)
            firsts = [first_of(row) for row in told]
            for row in rows:
                numbers = [flat(row)[first] for first in firsts]
                self.assertEqual(mixed(p, posts, numbers, told), row)

    def test_free_rows_stay_as_many(self):
        source = dice("free")
        for p in PRIMES:
            for posts in range(11):
                places = sorted(source.sample(range(2 * posts), source.randrange(2 * posts + 1)))
                rows = []
                for place in places:
                    numbers = [0] * (2 * posts)
                    numbers[place] = 1
                    for behind in range(place + 1, 2 * posts):
                        if behind not in places:
                            numbers[behind] = source.randrange(p)
                    rows.append(tuple(zip(numbers[::2], numbers[1::2])))
                self.assertEqual(spans.plain(p, posts, other_span(source, p, posts, rows)), rows)

    def test_spans_the_lot(self):
        for source, p, posts, rows in small_samples("small plain"):
            told = spans.plain(p, posts, rows)
            whole = lot(p, posts, rows)
            self.is_plain(told, p, posts)
            self.assertEqual(lot(p, posts, told), whole)
            self.assertEqual(p ** len(told), len(whole))
            self.assertEqual(spans.plain(p, posts, sorted(whole)), told)

    def test_rows_of_twenty_posts(self):
        source = dice("wide")
        for p in PRIMES:
            rows = any_rows(source, p, 20, 25)
            told = kept_as_is(self, spans.plain, p, 20, rows)
            self.is_plain(told, p, 20)
            self.assertEqual(spans.plain(p, 20, other_span(source, p, 20, rows)), told)


class IsIn(Told):
    def says(self, truth, p, posts, rows, row):
        self.assertIs(kept_as_is(self, spans.is_in, p, posts, rows, row), truth)
        self.assertIs(spans.is_in(p, posts, tuple(rows), row), truth)

    def test_told_ones(self):
        self.says(True, 5, 1, [((1, 2),)], ((3, 1),))
        self.says(False, 5, 1, [((1, 2),)], ((3, 2),))
        self.says(True, 2, 0, [], ())
        self.says(True, 2, 0, [(), ()], ())

    def test_of_none_the_row_of_noughts_alone(self):
        for p, posts in SMALL:
            for row in all_rows(p, posts):
                self.says(not any(flat(row)), p, posts, [], row)
                self.says(not any(flat(row)), p, posts, [((0, 0),) * posts], row)

    def test_sums(self):
        for source, p, posts, rows in samples("sums"):
            for _ in range(3):
                self.says(True, p, posts, rows, mixed(p, posts, [source.randrange(p) for _ in rows], rows))
            self.says(True, p, posts, rows, ((0, 0),) * posts)

    def test_one_number_otherwise(self):
        for source, p, posts, rows in samples("otherwise", 1):
            free = len(spans.plain(p, posts, rows))
            row = mixed(p, posts, [source.randrange(p) for _ in rows], rows)
            for place in range(2 * posts):
                numbers = flat(row)
                numbers[place] = (numbers[place] + source.randrange(1, p)) % p
                other = tuple(zip(numbers[::2], numbers[1::2]))
                self.says(len(spans.plain(p, posts, rows + [other])) == free, p, posts, rows, other)

    def test_all_rows(self):
        for source, p, posts, rows in small_samples("small in"):
            whole = lot(p, posts, rows)
            for row in all_rows(p, posts):
                self.assertIs(spans.is_in(p, posts, rows, row), row in whole)


class Mirror(Told):
    def test_told_ones(self):
        self.assertEqual(spans.mirror(5, 1, [((1, 2),)]), [((1, 2),)])
        self.assertEqual(spans.mirror(5, 2, [((1, 0), (0, 0))]), [((1, 0), (0, 0)), ((0, 0), (1, 0)), ((0, 0), (0, 1))])
        self.assertEqual(spans.mirror(3, 2, [((1, 0), (1, 0)), ((0, 1), (0, 2))]),
                         [((1, 0), (1, 0)), ((0, 1), (0, 2))])

    def test_of_none_all_rows(self):
        for p in PRIMES:
            for posts in range(21):
                told = kept_as_is(self, spans.mirror, p, posts, [])
                self.is_plain(told, p, posts)
                self.assertEqual(len(told), 2 * posts)
                self.assertEqual(spans.mirror(p, posts, told), [])
                self.assertEqual(spans.mirror(p, posts, (((0, 0),) * posts,)), told)

    def test_meets_each_row_with_nought(self):
        for source, p, posts, rows in samples("mirror"):
            told = kept_as_is(self, spans.mirror, p, posts, rows)
            self.is_plain(told, p, posts)
            self.assertEqual([(one, row) for one in told for row in rows if met(p, one, row)], [])
            self.assertEqual(len(told) + len(spans.plain(p, posts, rows)), 2 * posts)
            self.assertEqual(kept_as_is(self, spans.mirror, p, posts, tuple(rows)), told)
            self.is_new_each_time(spans.mirror, p, posts, rows)

    def test_of_the_mirror_is_the_lot(self):
        for source, p, posts, rows in samples("mirror of mirror"):
            self.assertEqual(spans.mirror(p, posts, spans.mirror(p, posts, rows)), spans.plain(p, posts, rows))

    def test_hangs_on_the_lot_alone(self):
        for source, p, posts, rows in samples("mirror of lot", 1):
            self.assertEqual(spans.mirror(p, posts, other_span(source, p, posts, rows)), spans.mirror(p, posts, rows))

    def test_all_rows(self):
        for source, p, posts, rows in small_samples("small mirror"):
            told = spans.mirror(p, posts, rows)
            found = {one for one in all_rows(p, posts) if not any(met(p, one, row) for row in rows)}
            self.assertEqual(lot(p, posts, told), found)


class Papers(Told):
    def right(self, p, posts, rows, row, paper):
        """Look the paper over by multiplying alone; tell its word."""
        self.assertIs(type(paper), tuple)
        word, shown = paper
        self.assertIs(type(shown), tuple)
        if word == "sum":
            self.assertEqual(len(shown), len(rows))
            self.assertTrue(all(type(number) is int and 0 <= number < p for number in shown))
            self.assertEqual(mixed(p, posts, shown, rows), row)
        else:
            self.assertEqual(word, "bar")
            self.is_list_of_rows([shown], p, posts)
            self.assertEqual([other for other in rows if met(p, shown, other)], [])
            self.assertNotEqual(met(p, shown, row), 0)
        return word

    def told(self, p, posts, rows, row):
        paper = kept_as_is(self, spans.in_paper, p, posts, rows, row)
        self.assertEqual(kept_as_is(self, spans.in_paper, p, posts, tuple(rows), row), paper)
        self.assertIs(kept_as_is(self, spans.in_holds, p, posts, rows, row, paper), True)
        self.assertIs(spans.in_holds(p, posts, tuple(rows), row, paper), True)
        return self.right(p, posts, rows, row, paper)

    def test_of_none_and_of_noughts(self):
        for p in PRIMES:
            for posts in range(11):
                noughts = ((0, 0),) * posts
                self.assertEqual(spans.in_paper(p, posts, [], noughts), ("sum", ()))
                for many in range(3):
                    self.assertEqual(self.told(p, posts, [noughts] * many, noughts), "sum")
                    if posts:
                        row = ((0, 0),) * (posts - 1) + ((0, p - 1),)
                        self.assertEqual(self.told(p, posts, [noughts] * many, row), "bar")

    def test_sums_and_bars(self):
        for source, p, posts, rows in samples("papers"):
            row = mixed(p, posts, [source.randrange(p) for _ in rows], rows)
            self.assertEqual(self.told(p, posts, rows, row), "sum")
            row = any_row(source, p, posts)
            truth = len(spans.plain(p, posts, rows + [row])) == len(spans.plain(p, posts, rows))
            self.assertEqual(self.told(p, posts, rows, row), "sum" if truth else "bar")

    def test_all_rows(self):
        for source, p, posts, rows in small_samples("small papers"):
            whole = lot(p, posts, rows)
            for row in all_rows(p, posts)[:90]:
                word = self.right(p, posts, rows, row, spans.in_paper(p, posts, rows, row))
                self.assertEqual(word, "sum" if row in whole else "bar")

    def test_many_rows(self):
        rows = all_rows(3, 3)
        self.assertEqual(self.told(3, 3, rows, ((1, 2), (0, 1), (2, 2))), "sum")
        some = [row for row in rows if met(3, row, ((1, 2), (0, 1), (2, 2))) == 0]
        self.assertEqual(self.told(3, 3, some, ((1, 2), (0, 1), (2, 2))), "sum")
        self.assertEqual(self.told(3, 3, some, ((1, 0), (0, 0), (0, 0))), "bar")


class Judge(Told):
    def says(self, truth, p, posts, rows, row, thing):
        self.assertIs(kept_as_is(self, spans.in_holds, p, posts, rows, row, thing), truth)
        self.assertIs(spans.in_holds(p, posts, tuple(rows), row, thing), truth)

    def test_told_ones(self):
        rows = [((1, 2), (0, 1)), ((0, 1), (1, 0))]
        row = ((2, 0), (1, 2))
        self.says(True, 5, 2, rows, row, ("sum", (2, 1)))
        self.says(False, 5, 2, rows, row, ("sum", (1, 2)))
        self.says(True, 5, 2, rows, ((1, 0), (0, 0)), ("bar", ((0, 1), (1, 0))))
        self.says(False, 5, 2, rows, ((1, 0), (0, 0)), ("bar", ((1, 0), (0, 1))))

    def test_each_sum_that_is_right(self):
        rows = [((1, 1),), ((2, 2),), ((0, 0),), ((1, 1),)]
        for numbers in [(a, b, c, d) for a in range(3) for b in range(3) for c in range(3) for d in range(3)]:
            self.says((numbers[0] + 2 * numbers[1] + numbers[3]) % 3 == 2, 3, 1, rows, ((2, 2),), ("sum", numbers))

    def test_each_bar_that_is_right(self):
        for source, p, posts, rows in small_samples("bars"):
            row = any_row(source, p, posts)
            for bar in all_rows(p, posts)[:81]:
                truth = not any(met(p, bar, other) for other in rows) and met(p, bar, row) != 0
                self.assertIs(spans.in_holds(p, posts, rows, row, ("bar", bar)), truth)

    def test_never_both(self):
        for source, p, posts, rows in small_samples("both"):
            bars = all_rows(p, posts)
            for row in source.sample(bars, min(4, len(bars))):
                barred = any(spans.in_holds(p, posts, rows, row, ("bar", bar)) for bar in bars)
                self.assertIs(barred, row not in lot(p, posts, rows))
                self.assertIs(spans.is_in(p, posts, rows, row), not barred)
                for _ in range(10):
                    numbers = tuple(source.randrange(p) for _ in rows)
                    self.assertFalse(barred and spans.in_holds(p, posts, rows, row, ("sum", numbers)))

    def test_sums_with_something_otherwise(self):
        for source, p, posts, rows in samples("wrong sums", 1):
            numbers = tuple(source.randrange(p) for _ in rows)
            row = mixed(p, posts, numbers, rows)
            self.says(True, p, posts, rows, row, ("sum", numbers))
            for wrong in ("bar", "Sum", "", None, 0, True, ("sum",), ["sum"]):
                self.says(False, p, posts, rows, row, (wrong, numbers))
            for wrong in (numbers + (0,), list(numbers), None, "sum", {}):
                self.says(False, p, posts, rows, row, ("sum", wrong))
            for wrong in (["sum", numbers], ("sum",), ("sum", numbers, numbers), numbers, (numbers, "sum"), ()):
                self.says(False, p, posts, rows, row, wrong)
            for at in range(len(numbers)):
                self.says(False, p, posts, rows, row, ("sum", numbers[:at] + numbers[at + 1:]))
                for wrong in (numbers[at] + p, numbers[at] - p, p, -1, str(numbers[at]), None, (numbers[at],)):
                    self.says(False, p, posts, rows, row, ("sum", numbers[:at] + (wrong,) + numbers[at + 1:]))
                other = numbers[:at] + ((numbers[at] + source.randrange(1, p)) % p,) + numbers[at + 1:]
                self.says(not any(flat(rows[at])), p, posts, rows, row, ("sum", other))

    def test_a_truth_is_no_number(self):
        rows = [((1, 1),), ((1, 0),)]
        self.says(True, 5, 1, rows, ((1, 1),), ("sum", (1, 0)))
        self.says(False, 5, 1, rows, ((1, 1),), ("sum", (True, 0)))
        self.says(False, 5, 1, rows, ((1, 1),), ("sum", (1, False)))
        self.says(True, 5, 1, rows[:1], ((1, 0),), ("bar", ((1, 1),)))
        self.says(False, 5, 1, rows[:1], ((1, 0),), ("bar", ((True, 1),)))
        self.says(False, 5, 1, rows[:1], ((1, 0),), ("bar", ((1, True),)))

    def test_bars_with_something_otherwise(self):
        met_with = 0
        for source, p, posts, rows in samples("wrong bars", 1):
            row = any_row(source, p, posts)
            word, bar = spans.in_paper(p, posts, rows, row)
            if word == "sum":
                continue
            met_with += 1
            self.says(True, p, posts, rows, row, ("bar", bar))
            for wrong in ("sum", "Bar", "", None, 0, True, ("bar",), ["bar"]):
                self.says(False, p, posts, rows, row, (wrong, bar))
            for wrong in (list(bar), bar + ((0, 0),), bar[:-1], None, "bar", {}, flat(bar), tuple(flat(bar))):
                self.says(False, p, posts, rows, row, ("bar", wrong))
            for wrong in (["bar", bar], ("bar",), ("bar", bar, bar), bar, (bar, "bar")):
                self.says(False, p, posts, rows, row, wrong)
            for at in range(posts):
                push, answer = bar[at]
                for wrong in ([push, answer], (push,), (push, answer, 0), (push + p, answer), (push, answer - p),
                              (str(push), answer), (push, None), None, push):
                    self.says(False, p, posts, rows, row, ("bar", bar[:at] + (wrong,) + bar[at + 1:]))
        self.assertGreater(met_with, 20)

    def test_a_bar_that_meets_one_of_the_rows(self):
        for p in PRIMES:
            rows = [((1, 0), (0, 0)), ((0, 0), (1, 0))]
            self.says(True, p, 2, rows[:1], ((0, 0), (1, 0)), ("bar", ((0, 0), (0, 1))))
            self.says(False, p, 2, rows, ((0, 0), (1, 0)), ("bar", ((0, 0), (0, 1))))
            self.says(False, p, 2, rows[::-1], ((0, 0), (1, 0)), ("bar", ((0, 0), (0, 1))))

    def test_a_bar_that_meets_the_row_with_nought(self):
        for p in PRIMES:
            self.says(False, p, 2, [((1, 0), (0, 0))], ((0, 0), (1, 0)), ("bar", ((1, 0), (0, 0))))
            self.says(False, p, 2, [((1, 0), (0, 0))], ((0, 0), (1, 0)), ("bar", ((0, 0), (1, 0))))
            self.says(False, p, 2, [], ((0, 0), (1, 0)), ("bar", ((0, 0), (0, 0))))

    def test_of_none_and_of_noughts(self):
        for p in PRIMES:
            for posts in range(4):
                noughts = ((0, 0),) * posts
                self.says(True, p, posts, [], noughts, ("sum", ()))
                self.says(False, p, posts, [], noughts, ("sum", (0,)))
                self.says(False, p, posts, [], noughts, ("sum", []))
                self.says(False, p, posts, [], noughts, ("bar", noughts))
                self.says(False, p, posts, [noughts], noughts, ("sum", ()))
                for number in range(p):
                    self.says(True, p, posts, [noughts], noughts, ("sum", (number,)))
                self.says(False, p, posts, [noughts], noughts, ("bar", noughts))
                if posts:
                    row = ((1, 0),) + noughts[1:]
                    self.says(False, p, posts, [], row, ("sum", ()))
                    self.says(True, p, posts, [], row, ("bar", ((0, 1),) + noughts[1:]))
                    self.says(True, p, posts, [noughts], row, ("bar", ((0, p - 1),) + noughts[1:]))
                    self.says(False, p, posts, [noughts], row, ("sum", (1,)))

    def test_anything(self):
        for p in PRIMES:
            two = [((1, 0), (0, 1)), ((0, 0), (0, 0))]
            for posts, rows in ((0, []), (0, [()]), (1, []), (1, [((1, 1),)]), (2, two)):
                for row in (((0, 0),) * posts, ((1, 0),) * posts):
                    for thing in odd_things():
                        self.says(False, p, posts, rows, row, thing)

    def test_what_takes_for_ever_to_go_through(self):
        wide = [endless(tuple, 2), endless(list, 2), endless(tuple, 1000)]
        for shown in wide + [("sum", thing) for thing in wide] + [("bar", thing) for thing in wide]:
            self.assertIs(spans.in_holds(3, 2, [((1, 0), (0, 1))] * 2, ((1, 0), (0, 1)), shown), False)

    def test_one_thing_put_otherwise(self):
        source = dice("put otherwise")
        for p in PRIMES:
            rows = any_rows(source, p, 3, 3)
            row = mixed(p, 3, (1, 0, 1), rows)
            for thing in odd_things():
                self.says(False, p, 3, rows, row, ("sum", (1, thing, 1)))
                self.says(False, p, 3, rows, row, (thing, (1, 0, 1)) if unalike(thing, "sum") else thing)
                self.says(False, p, 3, [], row, ("bar", ((0, 1), thing, (0, 0))) if unalike(thing, (0, 1)) else thing)
                self.says(False, p, 3, [], row, ("bar", ((0, thing), (0, 0), (0, 0))))


if __name__ == "__main__":
    unittest.main()
