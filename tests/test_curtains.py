import copy
import itertools
import unittest

from fairposts import curtains
from fairposts.benches import Bench
from fairposts.curtains import Curtain, judged_holds
from fairposts.errors import BadThing, NotFair, PostError, TooMany
from fairposts.gadgets import by_table, knot, spring
from fairposts.things import Thing
from tests.helper import (
    PRIMES, Told, a_stand, all_of, all_rows, all_thing_rows, any_hold, any_row, any_thing_rows, dice, drawn, endless,
    held, kept_as_is, lot, met, mixed, odd_things, one_otherwise, other_span, put_otherwise, rank, spelled,
    stands_of, still_set, table_by_the_words, thing_samples,
)

SMALL = ((2, 0), (3, 0), (2, 1), (2, 2), (2, 3), (3, 1), (3, 2), (5, 1), (5, 2), (7, 1), (13, 1))


def is_right_row(p, posts, thing):
    if type(thing) is not tuple or len(thing) != posts or any(type(pair) is not tuple for pair in thing):
        return False
    return all(len(pair) == 2 and all(type(one) is int and 0 <= one < p for one in pair) for pair in thing)


def spans_thing(p, posts, rows, shown):
    """Tell whether shown is a tuple of as many rows as posts that span a thing of which rows are stands."""
    if type(shown) is not tuple or len(shown) != posts or not all(is_right_row(p, posts, row) for row in shown):
        return False
    if any(met(p, one, other) for one in shown for other in (*shown, *rows)):
        return False
    return rank(p, [sum(row, ()) for row in shown]) == posts


def stands_by_rank(p, hold, rows):
    return rank(p, [held(hold, row) for row in rows]) == len(hold)


def is_right_judged(p, posts, rows, hold, paper):
    """Tell whether paper is one of a judged hold, as [38] has it."""
    if type(paper) is not tuple or not paper or type(paper[0]) is not str:
        return False
    if len(paper) == 3 and paper[0] == "open":
        if not all(spans_thing(p, posts, rows, shown) for shown in paper[1:]):
            return False
        return stands_by_rank(p, hold, paper[1]) and not stands_by_rank(p, hold, paper[2])
    if len(paper) != 2 or type(paper[1]) is not tuple:
        return False
    if paper[0] == "still":
        if len(paper[1]) != len(rows) or any(type(one) is not int or not 0 <= one < p for one in paper[1]):
            return False
        row = mixed(p, posts, paper[1], rows)
        return any(map(any, row)) and not any(held(hold, row))
    if paper[0] != "table" or len(rows) != posts or not stands_by_rank(p, hold, rows):
        return False
    return spelled(paper[1]) == spelled(table_by_the_words(p, hold, lot(p, posts, rows)))


def some_kept(source, p, posts, many):
    """So many rows of a made-up thing, free of one another."""
    rows = other_span(source, p, posts, any_thing_rows(source, p, posts))
    found = []
    for row in rows:
        if rank(p, [sum(one, ()) for one in (*found, row)]) > len(found) and len(found) < many:
            found.append(row)
    return tuple(found)


def behind(p, posts, rows):
    """A curtain to which rows were told."""
    curtain = Curtain(p, posts)
    for row in rows:
        curtain.tell(row)
    return curtain


def small_kept(name, times=12):
    """(source, p, posts, rows) of kept rows of small curtains."""
    source = dice(name)
    for p, posts in SMALL:
        for many in range(posts + 1):
            for _ in range(times):
                yield source, p, posts, some_kept(source, p, posts, many)


def kept_samples(name, times=2):
    """(source, p, posts, rows) of kept rows of 0 to 10 posts."""
    source = dice(name)
    for p in PRIMES:
        for posts in range(11):
            for _ in range(times):
                yield source, p, posts, some_kept(source, p, posts, source.choice((0, posts // 2, posts - 1, posts)))


class Curtains(Told):
    def is_refused(self, kind, field, value, curtain, row):
        ahead, told = spelled(curtain), spelled(row)
        for _ in range(2):
            with self.assertRaises(PostError) as caught:
                curtain.tell(row)
            self.assertIs(type(caught.exception), kind)
            self.assertEqual(spelled(getattr(caught.exception, field)), spelled(value))
            self.assertEqual((spelled(curtain), spelled(row)), (ahead, told))


class Made(Curtains):
    def test_new_ones(self):
        self.assertEqual(curtains.THINGS, 400)
        for p in PRIMES:
            for posts in range(11):
                curtain = Curtain(p, posts)
                self.assertEqual((curtain.kept(), len(curtain)), ((), 0))
                self.assertIs(type(curtain.kept()), tuple)

    def test_p_and_posts(self):
        for odd in odd_things() + [0, 1, 4, 6, 9, 15, -2, 2 + 2 ** 64, "5", [5], Bench(5), Curtain(5, 1), knot(5, 2),
                                   endless(tuple, 1000)]:
            if type(odd) is not int or odd not in PRIMES:
                for posts in (0, 3, 11, None):
                    self.refuses_p_or_posts(("p",), odd, posts)
            if type(odd) is not int or odd not in range(11):
                self.refuses_p_or_posts(("posts",), 5, odd)
        for posts in (-1, 11, 12, 10 ** 30, True, False, None, "3", (3,)):
            self.refuses_p_or_posts(("posts",), 13, posts)
            self.refuses_p_or_posts(("p",), 12, posts)
        Curtain(13, 0)
        Curtain(2, 10)

    def refuses_p_or_posts(self, place, p, posts):
        with self.assertRaises(PostError) as caught:
            Curtain(p, posts)
        self.assertIs(type(caught.exception), BadThing)
        self.assertEqual(caught.exception.place, place)


class Tell(Curtains):
    def test_told_ones(self):
        curtain = Curtain(5, 2)
        self.assertIs(curtain.tell(((0, 0), (0, 0))), False)
        self.assertIs(curtain.tell(((2, 4), (0, 0))), True)
        self.assertIs(curtain.tell(((1, 2), (0, 0))), False)
        self.is_refused(NotFair, "number", 0, curtain, ((1, 0), (0, 0)))
        self.assertIs(curtain.tell(((1, 2), (1, 3))), True)
        self.is_refused(NotFair, "number", 1, curtain, ((0, 0), (1, 0)))
        self.is_refused(NotFair, "number", 0, curtain, ((1, 0), (1, 0)))
        self.is_refused(BadThing, "place", ("row",), curtain, ((1, 2), (1, 5)))
        self.assertEqual(curtain.kept(), (((2, 4), (0, 0)), ((1, 2), (1, 3))))
        self.assertEqual((len(curtain), curtain.many()), (2, 1))

    def goes_on(self, curtain, p, posts, kept, lots, row):
        """Tell a row to a curtain of which the kept rows and their lot are known."""
        wrong = [number for number, other in enumerate(kept) if met(p, other, row)]
        if wrong:
            self.is_refused(NotFair, "number", wrong[0], curtain, row)
            return "NotFair", lots
        ahead = copy.deepcopy(row)
        self.assertIs(curtain.tell(row), row not in lots)
        self.assertEqual(spelled(row), spelled(ahead))
        if row not in lots:
            kept.append(row)
            lots = lot(p, posts, kept)
        self.assertEqual(spelled(curtain.kept()), spelled(tuple(kept)))
        self.assertEqual(len(curtain), len(kept))
        return "done", lots

    def test_drawn_rows(self):
        hows = {}
        for p, posts in SMALL:
            source = dice(f"tell {p} {posts}")
            for _ in range(10):
                curtain, kept, lots = Curtain(p, posts), [], {((0, 0),) * posts}
                thing = Thing(p, tuple(any_thing_rows(source, p, posts)))
                for _ in range(10):
                    row = source.choice((a_stand(source, thing), a_stand(source, thing), any_row(source, p, posts),
                                         ((0, 0),) * posts, source.choice(sorted(lots))))
                    how, lots = self.goes_on(curtain, p, posts, kept, lots, row)
                    hows[how] = hows.get(how, 0) + 1
                    self.assertEqual(curtain.many(), len([other for other in all_thing_rows(p, posts)
                                                          if not any(met(p, a, b) for a in other for b in kept)]))
        self.assertGreater(min(hows["done"], hows["NotFair"]), 100)

    def test_all_rows(self):
        for p, posts in ((2, 1), (2, 2), (3, 1), (5, 1)):
            for rows in all_thing_rows(p, posts):
                for some in range(posts + 1):
                    for row in all_rows(p, posts):
                        kept = list(rows[:some])
                        curtain = behind(p, posts, kept)
                        self.goes_on(curtain, p, posts, kept, lot(p, posts, kept), row)

    def test_many_posts(self):
        hows = {}
        for source, p, posts, rows in thing_samples("tell many", 1):
            thing = Thing(p, tuple(rows))
            curtain, kept = Curtain(p, posts), []
            for _ in range(12):
                row = source.choice((a_stand(source, thing), any_row(source, p, posts), ((0, 0),) * posts))
                wrong = [number for number, other in enumerate(kept) if met(p, other, row)]
                if wrong:
                    hows["NotFair"] = True
                    self.is_refused(NotFair, "number", wrong[0], curtain, row)
                    continue
                free = rank(p, [sum(one, ()) for one in (*kept, row)]) > len(kept)
                hows[free] = True
                self.assertIs(curtain.tell(row), free)
                kept += [row] * free
                self.assertEqual(spelled(curtain.kept()), spelled(tuple(kept)))
                self.assertEqual(len(curtain), len(kept))
        self.assertEqual(len(hows), 3)

    def test_rows_that_are_none(self):
        for source, p, posts, rows in kept_samples("no rows", 1):
            curtain = behind(p, posts, rows)
            row = a_stand(source, Thing(p, tuple(any_thing_rows(source, p, posts))))
            for other in drawn(source, one_otherwise(row), 40):
                if not is_right_row(p, posts, other):
                    self.is_refused(BadThing, "place", ("row",), curtain, other)
        for posts in (0, 1, 2):
            curtain = Curtain(5, posts)
            for odd in odd_things() + [knot(5, 2), Bench(5), Curtain(5, 2)]:
                for row in (odd, (odd,), (odd, odd), ((odd, 0),), ((0, 0), (0, odd)), [odd]):
                    if not is_right_row(5, posts, row):
                        self.is_refused(BadThing, "place", ("row",), curtain, row)
            for wide in (endless(tuple, 2), endless(list, 2), endless(tuple, 1000)):
                for row in (wide, (wide,), (wide, wide), ((wide, 0), (0, 0))):
                    with self.assertRaises(BadThing):
                        curtain.tell(row)

    def test_a_row_of_wrong_form_ahead_of_one_that_is_not_fair(self):
        curtain = behind(5, 1, [((1, 2),)])
        self.is_refused(BadThing, "place", ("row",), curtain, ((1, 5),))
        self.is_refused(BadThing, "place", ("row",), curtain, ((1, True),))
        self.is_refused(NotFair, "number", 0, curtain, ((1, 1),))

    def test_what_is_told_is_not_the_curtains_own(self):
        curtain = Curtain(5, 2)
        first = curtain.kept()
        curtain.tell(((1, 0), (0, 0)))
        self.assertEqual(first, ())
        self.assertEqual(curtain.kept(), (((1, 0), (0, 0)),))


class Fitting(Curtains):
    def test_told_ones(self):
        curtain = Curtain(5, 1)
        self.assertEqual(curtain.many(), 6)
        self.assertEqual([thing.told() for thing in curtain.things()],
                         [(5, (0,), ((k,),)) for k in range(5)] + [(5, (1,), ((0,),))])
        curtain.tell(((2, 1),))
        self.assertEqual((curtain.many(), curtain.things()), (1, [spring(5, 3)]))
        self.assertEqual(Curtain(7, 2).many(), 400)
        self.assertEqual(Curtain(2, 3).many(), 135)
        self.assertEqual(Curtain(2, 4).many(), 2295)

    def test_many(self):
        for source, p, posts, rows in kept_samples("many", 3):
            many = 1
            for k in range(1, posts - len(rows) + 1):
                many *= p ** k + 1
            self.assertEqual(spelled(behind(p, posts, rows).many()), spelled(many))

    def test_all_that_fit(self):
        for source, p, posts, rows in small_kept("all that fit", 6):
            curtain = behind(p, posts, rows)
            fitting = [Thing(p, other) for other in all_thing_rows(p, posts)
                       if not any(met(p, a, b) for a in other for b in rows)]
            self.assertEqual(curtain.many(), len(fitting))
            told = curtain.things()
            self.assertIs(type(told), list)
            for thing in told:
                self.is_thing(thing, p, posts)
            self.assertEqual([thing.told() for thing in told], sorted(thing.told() for thing in fitting))
            self.is_new_each_time(curtain.things)
            for other in all_thing_rows(p, posts):
                self.assertIs(kept_as_is(self, curtain.fits, Thing(p, other)), set(rows) <= lot(p, posts, other))

    def test_few_that_fit_of_many_posts(self):
        for source, p, posts, rows in kept_samples("few", 1):
            if posts:
                for free in range(4):
                    rows = some_kept(source, p, posts, max(posts - free, 0))
                    curtain = behind(p, posts, rows)
                    if curtain.many() > 400:
                        with self.assertRaises(TooMany) as caught:
                            curtain.things()
                        self.assertEqual(spelled(caught.exception.bound), "400")
                        continue
                    if p == 7 and posts % 4:
                        continue
                    told = [thing.told() for thing in curtain.things()]
                    self.assertEqual(told, sorted(told))
                    self.assertEqual(len(set(told)), curtain.many())
                    for one in source.sample(told, min(5, len(told))):
                        self.assertTrue(all(by_table(*one).has(row) for row in rows))

    def test_too_many(self):
        for p, posts, refused in ((7, 2, False), (11, 2, True), (3, 2, False), (3, 3, True), (2, 4, True),
                                  (2, 3, False), (13, 1, False), (13, 10, True)):
            curtain = Curtain(p, posts)
            for _ in range(2):
                if refused:
                    with self.assertRaises(PostError) as caught:
                        curtain.things()
                    self.assertIs(type(caught.exception), TooMany)
                    self.assertEqual(caught.exception.bound, 400)
                else:
                    self.assertEqual(len(curtain.things()), curtain.many())
        self.assertEqual(Curtain(7, 2).many(), 400)

    def test_fits(self):
        seen = [0, 0]
        for source, p, posts, rows in kept_samples("fits"):
            curtain = behind(p, posts, rows)
            others = [Thing(p, tuple(any_thing_rows(source, p, posts)))]
            paper = curtain.judged(any_hold(source, posts))
            if paper[0] == "open":
                others += [Thing(p, paper[1]), Thing(p, paper[2])]
            for thing in others:
                truth = not any(met(p, a, b) for a in thing.rows() for b in rows)
                self.assertIs(kept_as_is(self, curtain.fits, thing), truth)
                seen[truth] += 1
        self.assertGreater(min(seen), 50)

    def test_another_p_and_other_posts(self):
        for p, q in itertools.product(PRIMES, repeat=2):
            for posts, other in itertools.product(range(4), repeat=2):
                thing = Thing(q, tuple(tuple((int(k == j), 0) for j in range(other)) for k in range(other)))
                self.assertIs(Curtain(p, posts).fits(thing), p == q and posts == other)


class Equality(Curtains):
    def test_lots(self):
        for source, p, posts, rows in [*small_kept("lots", 3), *kept_samples("lots", 1)]:
            one = behind(p, posts, rows)
            other = behind(p, posts, other_span(source, p, posts, rows) if rows else [])
            self.assertIs(one == other, True)
            self.assertIs(one != other, False)
            if rows:
                fewer = behind(p, posts, rows[:-1])
                self.assertIs(one == fewer, False)
                self.assertIs(fewer != one, True)
                fewer.tell(rows[-1])
                self.assertIs(one == fewer, True)

    def test_other_lots_with_as_many_rows(self):
        for source, p, posts, rows in small_kept("other lots", 4):
            other = some_kept(source, p, posts, len(rows))
            same = lot(p, posts, rows) == lot(p, posts, other)
            self.assertIs(behind(p, posts, rows) == behind(p, posts, other), same)

    def test_another_p_and_other_posts(self):
        found = [Curtain(p, posts) for p in PRIMES for posts in (0, 1, 2, 10)]
        for (k, one), (j, other) in itertools.product(enumerate(found), repeat=2):
            self.assertIs(one == other, k == j)

    def test_nothing_else(self):
        curtain = behind(5, 1, [((1, 2),)])
        for odd in odd_things() + [spring(5, 2), Bench(5), curtain.kept(), [*curtain.kept()], (5, 1, curtain.kept())]:
            self.assertIs(curtain == odd, False)
            self.assertIs(odd == curtain, False)
            self.assertIs(curtain != odd, True)


class Judged(Curtains):
    def says(self, truth, p, posts, rows, hold, paper):
        self.assertIs(kept_as_is(self, judged_holds, p, posts, rows, hold, paper), truth, spelled(paper)[:300])

    def is_right(self, p, posts, rows, hold):
        paper = kept_as_is(self, behind(p, posts, rows).judged, hold)
        self.assertTrue(is_right_judged(p, posts, rows, hold, paper) if p ** posts < 3000 or paper[0] != "table"
                        else by_table(p, hold, paper[1]) == Thing(p, rows))
        self.says(True, p, posts, rows, hold, paper)
        return paper[0]

    def test_told_ones(self):
        curtain = behind(5, 2, [((1, 0), (0, 0))])
        self.assertEqual(curtain.judged((1, 0))[0], "still")
        self.assertEqual(curtain.judged((0, 0))[0], "open")
        curtain.tell(((0, 0), (1, 3)))
        self.assertEqual(curtain.judged((0, 0)), ("table", ((0, 0), (0, 3))))
        self.assertEqual(curtain.judged((1, 1))[0], "still")
        for p in PRIMES:
            self.assertEqual(spelled(Curtain(p, 0).judged(())), spelled(("table", ())))
            self.says(True, p, 0, (), (), ("table", ()))

    def test_against_all_things_that_fit(self):
        words = {}
        for source, p, posts, rows in small_kept("judged", 8):
            fitting = [lot(p, posts, other) for other in all_thing_rows(p, posts)
                       if not any(met(p, a, b) for a in other for b in rows)]
            for hold in all_of((0, 1), posts):
                standing = {len(still_set(hold, stands)) == 1 for stands in fitting}
                word = self.is_right(p, posts, rows, hold)
                self.assertEqual(word, "open" if len(standing) == 2 else "still" if False in standing else "table")
                words[word] = words.get(word, 0) + 1
        self.assertGreater(min(words["still"], words["table"], words["open"]), 100)

    def test_many_posts(self):
        words = {}
        for source, p, posts, rows in kept_samples("judged many", 3):
            for hold in (any_hold(source, posts), (0,) * posts, (1,) * posts):
                word = self.is_right(p, posts, rows, hold)
                words[word] = words.get(word, 0) + 1
                free = rank(p, [held(hold, row) for row in rows])
                self.assertEqual(word, "still" if free < len(rows) else "table" if free == posts else "open")
        self.assertGreater(min(words["still"], words["table"], words["open"]), 50)

    def test_all_still_papers_and_all_tables(self):
        for source, p, posts, rows in small_kept("all stills", 2):
            if p ** (posts * posts) > 700:
                continue
            for hold in all_of((0, 1), posts):
                tables = all_of(all_of(range(p), posts), posts)
                for paper in [*[("still", numbers) for numbers in all_of(range(p), len(rows))],
                              *[("table", table) for table in tables]]:
                    truth = is_right_judged(p, posts, rows, hold, paper)
                    self.assertIs(judged_holds(p, posts, rows, hold, paper), truth)

    def test_open_papers_whoever_made_them(self):
        rights = wrongs = 0
        for source, p, posts, rows in small_kept("open", 3):
            things = [tuple(other) for other in all_thing_rows(p, posts)]
            hold = any_hold(source, posts)
            for _ in range(25):
                one, other = source.choice(things), source.choice(things)
                fitting = [tuple(found) for found in things if not any(met(p, a, b) for a in found for b in rows)]
                for paper in (("open", one, other), ("open", source.choice(fitting), source.choice(fitting)),
                              ("open", source.choice(fitting), other), ("open", one, source.choice(fitting))):
                    truth = is_right_judged(p, posts, rows, hold, paper)
                    rights, wrongs = rights + truth, wrongs + (not truth)
                    self.assertIs(judged_holds(p, posts, rows, hold, paper), truth)
        self.assertGreater(min(rights, wrongs), 200)

    def test_never_two_sorts(self):
        for source, p, posts, rows in small_kept("never two", 1):
            if p ** posts > 9:
                continue
            spans = [tuple(other) for other in all_thing_rows(p, posts)]
            for hold in all_of((0, 1), posts):
                papers = [("still", numbers) for numbers in all_of(range(p), len(rows))]
                papers += [("table", table_by_the_words(p, hold, lot(p, posts, span))) for span in spans
                           if stands_by_rank(p, hold, span)]
                papers += [("open", *pair) for pair in drawn(source, all_of(spans, 2), 300)]
                found = {paper[0] for paper in papers if judged_holds(p, posts, rows, hold, paper)}
                self.assertLessEqual(len(found), 1)

    def test_something_otherwise(self):
        rights = wrongs = 0
        for source, p, posts, rows in [*small_kept("otherwise", 2), *kept_samples("otherwise", 1)]:
            if p ** posts > 3000:
                continue
            hold = any_hold(source, posts)
            paper = behind(p, posts, rows).judged(hold)
            found = [*drawn(source, one_otherwise(paper), 30), *[put_otherwise(source, paper) for _ in range(10)]]
            word, *shown = paper
            found += [(other, *shown) for other in ("still", "table", "open", "Still", "")]
            found += [(word, *shown[::-1]), (word, *shown, *shown), (word, *shown, ()), (word, shown), (word,)]
            if word == "open":
                found += [(word, shown[0], shown[0]), (word, shown[1], shown[1]), (word, shown[0][::-1], shown[1]),
                          (word, shown[0], tuple(other_span(source, p, posts, shown[1]))[:posts]),
                          (word, shown[0] + rows[:1], shown[1]), (word, shown[0], shown[1] + rows[:1]),
                          (word, shown[0][:-1], shown[1]), (word, shown[0], shown[1][:-1] + shown[1][:1])]
            elif word == "still":
                found += [(word, (0,) * len(rows)), (word, tuple(-one % p for one in shown[0]))]
            for other in found:
                truth = is_right_judged(p, posts, rows, hold, other)
                rights, wrongs = rights + truth, wrongs + (not truth)
                self.says(truth, p, posts, rows, hold, other)
        self.assertGreater(min(rights, wrongs), 200)

    def test_papers_of_other_rows_and_holds(self):
        for source, p, posts, rows in kept_samples("of others", 1):
            if p ** posts > 3000:
                continue
            hold, other = any_hold(source, posts), any_hold(source, posts)
            for papers in (behind(p, posts, rows).judged(other), behind(p, posts, rows[:-1]).judged(hold),
                           behind(p, posts, some_kept(source, p, posts, len(rows))).judged(hold)):
                self.says(is_right_judged(p, posts, rows, hold, papers), p, posts, rows, hold, papers)

    def test_anything(self):
        for rows, posts in (((), 0), ((), 1), ((((1, 2),),), 1), ((((1, 0), (0, 0)),), 2)):
            for hold in all_of((0, 1), posts):
                paper = behind(5, posts, rows).judged(hold)
                word, *shown = paper
                for odd in odd_things() + [knot(5, 2), Bench(5), Curtain(5, 2), [*paper]]:
                    for other in (odd, (odd,), (odd, *shown), (*paper, odd), ("still", odd), ("still", (odd,)),
                                  ("table", odd), ("table", (odd,)), ("table", ((odd,),)), ("open", odd, odd),
                                  ("open", (odd,), (odd,)), ("open", odd, shown[-1]), ("open", shown[0], odd),
                                  ("open", shown[0], (odd,)), ("open", ((odd,),), shown[-1])):
                        self.says(is_right_judged(5, posts, rows, hold, other), 5, posts, rows, hold, other)
                for wide in (endless(tuple, 2), endless(list, 2), endless(tuple, 3), endless(tuple, 1000)):
                    for other in (wide, ("still", wide), ("table", wide), ("open", wide, wide), ("still", (wide,)),
                                  ("table", (wide,)), ("open", (wide,), (wide,)), ("open", ((wide,),), ((wide,),))):
                        self.assertIs(judged_holds(5, posts, rows, hold, other), False)

    def test_the_thing_behind(self):
        for source, p, posts, rows in thing_samples("behind", 1):
            thing = Thing(p, tuple(rows))
            curtain = Curtain(p, posts)
            for row in other_span(source, p, posts, rows):
                curtain.tell(row)
                self.assertTrue(curtain.fits(thing))
            self.assertEqual((curtain.many(), curtain.things()), (1, [thing]))
            if p ** posts < 3000:
                self.assertEqual(stands_of(thing), lot(p, posts, curtain.kept()))


if __name__ == "__main__":
    unittest.main()
