import itertools
import unittest

from fairposts import webs
from fairposts.errors import TooMany
from fairposts.gadgets import knot, lever, made, spring
from fairposts.things import Thing
from fairposts.ties import beside, freed, joined, ordered, stilled
from tests.helper import (
    PRIMES, Told, a_stand, all_rows, any_gadget, any_row, any_web, at_left, dice, drawn, endless, full_set,
    is_full_by_the_words, kept_as_is, left_by_the_words, met, mixed, odd_things, one_otherwise, parts_of_web,
    put_otherwise, rank, small_webs, spelled, stands_of, web_fault_by_the_words, web_samples,
)


def many_posts(web):
    return sum(map(len, parts_of_web(web)))


def any_full(source, web):
    """A made-up full row, from papers of rows that the web lets be."""
    return webs.let_paper(web, a_stand(source, webs.thing_of(web)))[1]


def inner_fulls(web):
    """Full rows that have noughts at all posts left, but are no noughts, of a small web."""
    noughts = ((0, 0),) * len(left_by_the_words(web))
    return [full for full in full_set(web) if at_left(web, full) == noughts and any(map(any, full))]


def is_right_letting(web, row, paper):
    """Tell whether paper is a paper of letting, as [28] has it."""
    if type(paper) is not tuple or len(paper) != 2 or type(paper[0]) is not str:
        return False
    if not is_right_full(web, paper[1]):
        return False
    its = at_left(web, paper[1])
    return its == row if paper[0] == "let" else paper[0] == "bar" and met(web[0], its, row) != 0


def is_right_row(p, posts, thing):
    if type(thing) is not tuple or len(thing) != posts or any(type(pair) is not tuple for pair in thing):
        return False
    numbers = sum(thing, ())
    return all(len(pair) == 2 for pair in thing) and all(type(one) is int and 0 <= one < p for one in numbers)


def is_right_full(web, thing):
    return is_right_row(web[0], many_posts(web), thing) and is_full_by_the_words(web, thing)


def is_right_paper(one, other, paper):
    """Tell whether paper is one of two webs, as [29] has it."""
    if type(paper) is not tuple or not paper or type(paper[0]) is not str:
        return False
    p, posts = one[0], len(left_by_the_words(one))
    if paper[0] == "alike" and len(paper) == 3:
        fulls, others = paper[1:]
        if type(fulls) is not tuple or type(others) is not tuple or not len(fulls) == len(others) == posts:
            return False
        if not all(is_right_full(one, full) for full in fulls) or not all(is_right_full(other, x) for x in others):
            return False
        parts = [at_left(one, full) for full in fulls]
        return parts == [at_left(other, full) for full in others] and rank(p, [sum(row, ()) for row in parts]) == posts
    if paper[0] != "apart" or len(paper) != 5 or type(paper[1]) is not int or paper[1] not in (0, 1):
        return False
    way, row, full, bar = paper[1:]
    if not is_right_row(p, posts, row):
        return False
    first, second = ((one, other), (other, one))[way]
    return is_right_letting(first, row, ("let", full)) and is_right_letting(second, row, ("bar", bar))


class Faults(Told):
    def says(self, fault, thing):
        self.assertEqual(spelled(kept_as_is(self, webs.web_fault, thing)), spelled(fault), spelled(thing)[:300])

    def test_told_ones(self):
        self.assertEqual((webs.GADGETS, webs.WIDEST), (12, 20))
        self.says(None, (5, (), ()))
        self.says(None, (5, (("spring", 3), ("knot", 3)), (("join", 0, 1), ("still", 3))))
        self.says(("tie", 0), (5, (("spring", 3), ("knot", 3)), (("join", 1, 0),)))
        self.says(("tie", 1), (5, (("spring", 3), ("knot", 3)), (("join", 0, 1), ("free", 1))))
        self.says(("gadget", 1), (5, (("spring", 3), ("spring", 5)), ()))

    def test_webs(self):
        for source, web in [*small_webs("faults", 10), *web_samples("faults")]:
            self.says(None, web)

    def test_bounds(self):
        for p in PRIMES:
            springs = (("spring", 1),) * 13
            stills = tuple(("still", post) for post in range(20))
            self.says(None, (p, springs[:12], stills[:2]))
            self.says(("gadgets",), (p, springs, stills[:3]))
            self.says(None, (p, (("table", (), ()),) * 12, ()))
            self.says(("gadgets",), (p, (("table", (), ()),) * 13, ()))
            self.says(None, (p, (("knot", 10), ("ring", 10)), stills[:10]))
            self.says(("wide",), (p, (("knot", 10), ("ring", 10), ("spring", 1)), stills))
            self.says(("wide",), (p, (("knot", 10), ("ring", 9), ("lever", 1)), stills))
            self.says(None, (p, (("knot", 10), ("ring", 10), ("table", (), ())), stills))
            self.says(("left",), (p, (("knot", 10), ("spring", 1)), ()))
            self.says(None, (p, (("knot", 10), ("spring", 0)), (("free", 10),)))
            self.says(("left",), (p, (("knot", 10), ("ring", 10)), stills[:9]))
            self.says(None, (p, (("knot", 10), ("ring", 10)), (("join", 0, 19), *stills[1:9])))
            self.says(None, (p, (("knot", 10), ("ring", 10)), tuple(("join", k, 19 - k) for k in range(10))))

    def test_ties(self):
        gadgets = (("knot", 3), ("spring", 1))
        for word, posts in itertools.product(("join", "still", "free", "Join", "", "stil"), ((), (0,), (0, 1), (1, 0),
                                             (2, 2), (0, 4), (-1, 0), (4,), (-1,), (0, 1, 2), (True,), (0, True))):
            right = (word == "join" and posts == (0, 1) and posts[1] is not True) or (
                word in ("still", "free") and spelled(posts) == spelled((0,)))
            self.says(None if right else ("tie", 0), (5, gadgets, ((word, *posts),)))
            fault = ("tie", 1)
            self.says(None if right else fault, (5, gadgets, (("free", 3), (word, *posts))))
            self.says(fault, (5, gadgets, (("free", 0), (word, *posts))))
            self.says(fault, (5, gadgets, (("join", 0, 3), (word, *posts))))
        self.says(("tie", 0), (5, (), (("still", 0),)))
        self.says(("tie", 0), (5, (("table", (), ()),), (("join", 0, 1),)))

    def test_which_of_two_is_told(self):
        self.says(("p",), (4, None, None))
        self.says(("p",), (True, [], []))
        self.says(("gadgets",), (5, [("spring", 9)], None))
        self.says(("gadgets",), (5, (("spring", 9),) * 13, ()))
        self.says(("gadget", 0), (5, (("spring", 9),) * 12, None))
        self.says(("gadget", 2), (5, (("knot", 10), ("knot", 10), ("knot", 11)), None))
        self.says(("wide",), (5, (("knot", 10), ("knot", 10), ("knot", 2)), None))
        self.says(("wide",), (5, (("knot", 10), ("knot", 10), ("knot", 2)), ((),)))
        self.says(("ties",), (5, (("knot", 10), ("knot", 10)), [("still", 0)]))
        self.says(("tie", 0), (5, (("knot", 10), ("knot", 10)), (("still", 20),)))
        self.says(("tie", 1), (5, (("knot", 10), ("knot", 10)), (("still", 0), ("still", 0), None)))
        self.says(("left",), (5, (("knot", 10), ("knot", 10)), (("still", 0),)))

    def test_one_or_two_things_otherwise(self):
        told = {}
        for source, web in [*small_webs("faults otherwise", 1), *web_samples("faults otherwise", 1)]:
            for one in drawn(source, one_otherwise(web), 120):
                told[web_fault_by_the_words(one)] = True
                self.says(web_fault_by_the_words(one), one)
                two = put_otherwise(source, one)
                self.says(web_fault_by_the_words(two), two)
            for _ in range(30):
                two = put_otherwise(source, put_otherwise(source, web))
                self.says(web_fault_by_the_words(two), two)
        self.assertGreater(len(told), 15)
        self.assertTrue({None, ("web",), ("p",), ("gadgets",), ("gadget", 0), ("ties",), ("tie", 0)} <= set(told))

    def test_ties_with_something_otherwise(self):
        for source, web in web_samples("ties otherwise", 2):
            for ties in drawn(source, one_otherwise(web[2]), 60):
                self.says(web_fault_by_the_words((*web[:2], ties)), (*web[:2], ties))
            for _ in range(10):
                ties = list(web[2])
                source.shuffle(ties)
                if ties:
                    tie = source.choice(ties)
                    ties[source.randrange(len(ties))] = source.choice((
                        tie, tie[:1] + tie[:0:-1], (tie[0], *[post + 1 for post in tie[1:]]), tie[:2], ("join", *tie)))
                self.says(web_fault_by_the_words((*web[:2], tuple(ties))), (*web[:2], tuple(ties)))

    def test_more_gadgets(self):
        for source, web in web_samples("more gadgets", 2):
            for _ in range(4):
                gadgets = (*web[1], *[any_gadget(source, web[0], 10) for _ in range(source.randint(1, 3))])
                self.says(web_fault_by_the_words((web[0], gadgets, web[2])), (web[0], gadgets, web[2]))

    def test_anything(self):
        for odd in odd_things() + [Thing(2, ()), spring(5, 1), [5, (), ()]]:
            for thing in (odd, (odd,), (odd, (), ()), (5, odd, ()), (5, (), odd), (5, (odd,), ()), (5, (), (odd,)),
                          (5, (("knot", 2), odd), ()), (5, (("knot", 2),), (("still", odd),)), (odd, odd, odd),
                          (5, (("knot", 2),), ((odd, 0),)), (5, (("knot", 2),), (("join", 0, odd),)),
                          (5, (("knot", 2),), (("join", odd, 1),)), (5, (("spring", odd),), ()), (5, (), (), odd)):
                self.says(web_fault_by_the_words(thing), thing)

    def test_what_takes_for_ever_to_go_through(self):
        for wide in (endless(tuple, 3), endless(list, 3), endless(tuple, 1000)):
            is_tuple, is_short = type(wide) is tuple, len(wide) == 3
            self.assertEqual(webs.web_fault(wide), ("p",) if is_tuple and is_short else ("web",))
            self.assertEqual(webs.web_fault((wide, wide, wide)), ("p",))
            self.assertEqual(webs.web_fault((5, wide, ())), ("gadget", 0) if is_tuple and is_short else ("gadgets",))
            self.assertEqual(webs.web_fault((5, (), wide)), ("tie", 0) if is_tuple else ("ties",))
            for ties in (((wide, 0),), (("still", wide),), (("join", 0, wide),), (wide,)):
                self.assertEqual(webs.web_fault((5, (("knot", 2),), ties)), ("tie", 0))


class Letting(Told):
    def test_told_ones(self):
        web = (7, (("spring", 2), ("knot", 3), ("spring", 3)), (("join", 0, 1), ("join", 2, 4)))
        self.assertEqual(webs.left(web), (3,))
        self.assertEqual(webs.thing_of(web), spring(7, 5))
        self.assertIs(webs.is_full(web, ((1, 2), (1, 5), (1, 4), (1, 5), (1, 3))), True)
        self.assertIs(webs.is_full(web, ((1, 2), (1, 5), (1, 4), (1, 4), (1, 3))), False)
        self.assertIs(webs.is_full(web, ((1, 2), (1, 5), (1, 4), (1, 5), (2, 6))), False)
        self.assertEqual(webs.thing_of((5, (("lever", 2),), ())), lever(5, 2))
        self.assertEqual(webs.thing_of((5, (("knot", 3),), (("free", 1),))), knot(5, 2))

    def test_going_through_all_full_rows(self):
        ties = 0
        for source, web in small_webs("thing of"):
            fulls = full_set(web)
            left = kept_as_is(self, webs.left, web)
            self.assertEqual(spelled(left), spelled(left_by_the_words(web)))
            told = kept_as_is(self, webs.thing_of, web)
            self.is_thing(told, web[0], len(left))
            self.assertEqual(stands_of(told), {at_left(web, full) for full in fulls})
            ties += len(web[2])
        self.assertGreater(ties, 300)

    def test_full_rows_one_by_one(self):
        seen = [0, 0]
        for source, web in small_webs("is full", 8):
            fulls = full_set(web)
            posts = many_posts(web)
            rows = all_rows(web[0], posts) if web[0] ** (2 * posts) <= 4096 else [
                *drawn(source, sorted(fulls), 20), *[any_row(source, web[0], posts) for _ in range(20)]]
            for row in rows:
                self.assertIs(webs.is_full(web, row), row in fulls)
                seen[row in fulls] += 1
        self.assertGreater(min(seen), 100)

    def test_full_of_anything(self):
        for source, web in [*small_webs("full otherwise", 2), *web_samples("full otherwise", 1)]:
            row = any_full(source, web)
            self.assertTrue(is_full_by_the_words(web, row))
            self.assertIs(kept_as_is(self, webs.is_full, web, row), True)
            for other in drawn(source, one_otherwise(row), 60):
                self.assertIs(kept_as_is(self, webs.is_full, web, other), is_right_full(web, other))
        for web in ((5, (), ()), (5, (("spring", 0),), ()), (2, (("knot", 2),), (("join", 0, 1),))):
            for odd in odd_things() + [Thing(2, ()), web]:
                for thing in (odd, (odd,), (odd, odd), ((0, 0), odd), ((odd, 0),), ((0, 0), (0, odd))):
                    self.assertIs(kept_as_is(self, webs.is_full, web, thing), is_right_full(web, thing))
            for wide in (endless(tuple, 2), endless(list, 2), endless(tuple, 1000)):
                for thing in (wide, (wide,), (wide, wide), ((wide, 0), (0, 0))):
                    self.assertIs(webs.is_full(web, thing), False)

    def test_one_gadget_alone(self):
        for source, web in web_samples("alone", 2):
            for gadget in web[1]:
                self.assertEqual(webs.thing_of((web[0], (gadget,), ())), made(web[0], gadget))

    def test_beside_and_tied_step_by_step(self):
        source = dice("step by step")
        for p in PRIMES:
            for many, wide in ((2, 4), (3, 7), (5, 10), (8, 10)):
                for _ in range(4):
                    web = any_web(source, p, many, wide)
                    thing = Thing(p, ())
                    for gadget in web[1]:
                        thing = beside(thing, made(p, gadget))
                    names = list(range(many_posts(web)))
                    for tie in source.sample(web[2], len(web[2])):
                        places = [names.index(post) for post in tie[1:]]
                        thing = {"join": joined, "still": stilled, "free": freed}[tie[0]](thing, *places)
                        names = [post for post in names if post not in tie[1:]]
                    self.assertEqual(webs.left(web), tuple(names))
                    self.assertEqual(webs.thing_of(web), thing)

    def test_ties_in_any_order(self):
        for source, web in web_samples("any order", 3):
            other = (web[0], web[1], tuple(source.sample(web[2], len(web[2]))))
            self.assertEqual(webs.thing_of(other), webs.thing_of(web))
            self.assertEqual(webs.left(other), webs.left(web))

    def test_webs_of_all_sizes(self):
        most = (0, 0)
        for source, web in web_samples("all sizes"):
            left = kept_as_is(self, webs.left, web)
            self.assertEqual(left, left_by_the_words(web))
            told = kept_as_is(self, webs.thing_of, web)
            self.is_thing(told, web[0], len(left))
            for row in told.rows():
                word, full = webs.let_paper(web, row)
                self.assertEqual(word, "let")
                self.assertTrue(is_right_full(web, full))
                self.assertEqual(at_left(web, full), row)
            most = max(most, (len(web[1]), many_posts(web)))
        self.assertEqual(most, (12, 20))

    def test_without_gadgets_and_without_posts_left(self):
        for p in PRIMES:
            web = (p, (), ())
            self.assertEqual(webs.left(web), ())
            self.assertEqual(webs.thing_of(web), Thing(p, ()))
            self.assertIs(webs.is_full(web, ()), True)
            self.assertEqual(webs.let_paper(web, ()), ("let", ()))
            for web in ((p, (("spring", 1),), (("still", 0),)), (p, (("knot", 2),), (("join", 0, 1),)),
                        (p, (("table", (), ()),) * 12, ()),
                        (p, (("ring", 10),), tuple(("free", k) for k in range(10)))):
                self.assertEqual(webs.left(web), ())
                self.assertEqual(webs.thing_of(web), Thing(p, ()))
                word, full = webs.let_paper(web, ())
                self.assertEqual(word, "let")
                self.assertTrue(is_right_full(web, full))


class LettingPapers(Told):
    def says(self, truth, web, row, paper):
        self.assertIs(kept_as_is(self, webs.let_holds, web, row, paper), truth, spelled(paper))

    def is_right(self, web, row, truth):
        paper = kept_as_is(self, webs.let_paper, web, row)
        self.assertIs(type(paper), tuple)
        self.assertEqual(paper[0], "let" if truth else "bar")
        self.assertTrue(is_right_letting(web, row, paper))
        self.says(True, web, row, paper)
        self.says(False, web, row, ({"let": "bar", "bar": "let"}[paper[0]], paper[1]))
        return paper

    def test_told_ones(self):
        web = (5, (("spring", 2),), ())
        self.assertEqual(webs.let_paper(web, ((1, 2),)), ("let", ((1, 2),)))
        word, full = webs.let_paper(web, ((1, 3),))
        self.assertEqual((word, full[0][1]), ("bar", full[0][0] * 2 % 5))
        self.says(True, web, ((1, 3),), ("bar", ((4, 3),)))
        self.says(False, web, ((1, 3),), ("bar", ((0, 0),)))
        self.says(False, web, ((1, 3),), ("bar", ((1, 3),)))

    def test_of_small_webs(self):
        seen = [0, 0]
        for source, web in small_webs("let papers", 8):
            let = {at_left(web, full) for full in full_set(web)}
            posts = len(left_by_the_words(web))
            rows = all_rows(web[0], posts) if posts < 3 and web[0] ** posts < 10 else [
                *drawn(source, sorted(let), 6), *[any_row(source, web[0], posts) for _ in range(6)]]
            for row in rows:
                self.is_right(web, row, row in let)
                seen[row in let] += 1
        self.assertGreater(min(seen), 150)

    def test_of_all_sizes(self):
        seen = [0, 0]
        for source, web in web_samples("let papers", 2):
            thing = webs.thing_of(web)
            for row in (a_stand(source, thing), any_row(source, web[0], thing.posts()), ((0, 0),) * thing.posts()):
                self.is_right(web, row, thing.has(row))
                seen[thing.has(row)] += 1
        self.assertGreater(min(seen), 50)

    def test_all_full_rows_whoever_made_them(self):
        for source, web in small_webs("whoever", 4):
            fulls = sorted(full_set(web))
            posts = len(left_by_the_words(web))
            for row in [at_left(web, fulls[-1]), any_row(source, web[0], posts), any_row(source, web[0], posts)]:
                for full in drawn(source, fulls, 20):
                    for word in ("let", "bar"):
                        self.says(is_right_letting(web, row, (word, full)), web, row, (word, full))

    def test_never_both(self):
        for source, web in small_webs("never both", 3):
            fulls = full_set(web)
            posts = len(left_by_the_words(web))
            for row in (any_row(source, web[0], posts), at_left(web, min(fulls))):
                found = {word for full in fulls for word in ("let", "bar") if webs.let_holds(web, row, (word, full))}
                self.assertEqual(len(found), 1)

    def test_something_otherwise(self):
        rights = 0
        for source, web in [*small_webs("let otherwise", 2), *web_samples("let otherwise", 1)]:
            thing = webs.thing_of(web)
            for row in (a_stand(source, thing), any_row(source, web[0], thing.posts())):
                paper = webs.let_paper(web, row)
                for other in drawn(source, one_otherwise(paper), 50):
                    truth = is_right_letting(web, row, other)
                    rights += truth
                    self.says(truth, web, row, other)
        self.assertGreater(rights, 10)

    def test_full_rows_that_differ_within(self):
        seen = 0
        for source, web in small_webs("within", 20):
            row = at_left(web, max(full_set(web)))
            for more in inner_fulls(web)[:3]:
                full = mixed(web[0], many_posts(web), (1, 1), (webs.let_paper(web, row)[1], more))
                self.says(True, web, row, ("let", full))
                seen += 1
        self.assertGreater(seen, 20)

    def test_anything(self):
        for web in ((5, (), ()), (5, (("spring", 3),), ()), (2, (("knot", 3),), (("still", 1),))):
            for row in (at_left(web, ((0, 0),) * many_posts(web)), ((1, 1),) * len(left_by_the_words(web))):
                word, full = webs.let_paper(web, row)
                for odd in odd_things() + [Thing(2, ()), web, [word, full]]:
                    for paper in (odd, (odd, full), ("let", odd), ("bar", odd), (word, full, odd), ("let", (odd,)),
                                  ("bar", (odd,)), ("let", ((odd, 0),) * len(full))):
                        self.says(is_right_letting(web, row, paper), web, row, paper)
                for wide in (endless(tuple, 2), endless(list, 2), endless(tuple, 1000)):
                    for paper in (wide, ("let", wide), ("bar", wide), (wide, full), (wide, wide)):
                        self.assertIs(webs.let_holds(web, row, paper), False)


def another_web(source, web):
    """Another web with as many posts left; in about half the cases something in it is put otherwise."""
    p, gadgets, ties = web
    choice = source.randrange(8)
    if choice == 0:
        return (p, gadgets, tuple(source.sample(ties, len(ties))))
    if choice == 1:
        told = webs.thing_of(web).told()
        return (p, (("table", told[1], told[2]),), ())
    if choice == 2 and many_posts(web) < 19 and len(gadgets) < 12:
        first = many_posts(web)
        return (p, (*gadgets, ("lever", source.randrange(p))), (*ties, ("still", first), ("free", first + 1)))
    found = list(gadgets)
    at = [at for at, gadget in enumerate(gadgets) if gadget[0] in ("spring", "lever")]
    if at:
        at = source.choice(at)
        found[at] = (found[at][0], source.randrange(p))
    words = {"join": "join", "still": "free", "free": "still"}
    return (p, tuple(found), tuple((words[tie[0]], *tie[1:]) for tie in ties))


class TwoWebs(Told):
    def says(self, truth, one, other, paper):
        self.assertIs(kept_as_is(self, webs.webs_hold, one, other, paper), truth, spelled(paper)[:500])

    def is_right(self, one, other, alike):
        paper = kept_as_is(self, webs.webs_paper, one, other)
        self.assertEqual(paper[0], "alike" if alike else "apart")
        self.assertTrue(is_right_paper(one, other, paper))
        self.says(True, one, other, paper)
        return paper

    def pairs(self, name, small, large):
        for source, web in [*small_webs(name, small), *web_samples(name, large)]:
            yield source, web, another_web(source, web)

    def test_told_ones(self):
        one = (7, (("spring", 2), ("knot", 3), ("spring", 3)), (("join", 0, 1), ("join", 2, 4)))
        other = (7, (("spring", 5),), ())
        word, fulls, others = self.is_right(one, other, True)
        self.assertEqual((word, fulls[0][3]), ("alike", others[0][0]))
        self.says(True, one, other, ("alike", (((3, 6), (3, 1), (3, 5), (3, 1), (3, 2)),), (((3, 1),),)))
        self.is_right(one, (7, (("spring", 4),), ()), False)
        self.says(True, (5, (("spring", 4),), ()), (5, (("spring", 3),), ()),
                  ("apart", 1, ((1, 3),), ((1, 3),), ((2, 3),)))
        self.says(True, (5, (("spring", 4),), ()), (5, (("spring", 3),), ()),
                  ("apart", 0, ((1, 4),), ((1, 4),), ((1, 3),)))
        self.says(False, (5, (("spring", 4),), ()), (5, (("spring", 3),), ()),
                  ("apart", 1, ((1, 4),), ((1, 4),), ((1, 3),)))

    def test_of_small_webs(self):
        seen = [0, 0]
        for source, one, other in self.pairs("small pairs", 20, 0):
            same = {at_left(one, full) for full in full_set(one)} == (
                {at_left(other, full) for full in full_set(other)} if many_posts(other) < 8
                else stands_of(webs.thing_of(other)))
            self.is_right(one, other, same)
            self.is_right(other, one, same)
            seen[same] += 1
        self.assertGreater(min(seen), 20)

    def test_of_all_sizes(self):
        seen = [0, 0]
        for source, one, other in self.pairs("large pairs", 0, 3):
            same = webs.thing_of(one) == webs.thing_of(other)
            self.is_right(one, other, same)
            self.is_right(other, one, same)
            seen[same] += 1
        self.assertGreater(min(seen), 20)

    def test_any_two_webs(self):
        source = dice("any two")
        seen = [0, 0]
        for p, posts in itertools.product((2, 3, 5, 13), range(4)):
            for _ in range(8):
                one, other = [(p, tuple(any_gadget(source, p, 1) for _ in range(posts)), ()) for _ in range(2)]
                if len(left_by_the_words(one)) == len(left_by_the_words(other)):
                    same = webs.thing_of(one) == webs.thing_of(other)
                    self.is_right(one, other, same)
                    seen[same] += 1
        self.assertGreater(min(seen), 5)

    def test_without_posts_left(self):
        for p in PRIMES:
            bare = [(p, (), ()), (p, (("spring", 1),), (("still", 0),)), (p, (("knot", 2),), (("join", 0, 1),)),
                    (p, (("table", (), ()),), ())]
            for one, other in itertools.product(bare, repeat=2):
                self.assertEqual(spelled(webs.webs_paper(one, other)), spelled(("alike", (), ())))
                self.says(True, one, other, ("alike", (), ()))
                for wrong in (("alike", [], ()), ("alike", (), []), ("alike", ()), ("apart", (), ()), ["alike", (), ()],
                              ("apart", 0, (), (), ()), ("alike", ((),), ((),)), ("alike", (), (), ())):
                    self.says(False, one, other, wrong)

    def test_papers_whoever_made_them(self):
        source = dice("whoever")
        rights = wrongs = 0
        for p in (2, 3, 5):
            for _ in range(20):
                one = any_web(source, p, 3, 4, 2)
                other = another_web(source, one)
                posts = len(left_by_the_words(one))
                fulls, others = sorted(full_set(one)), sorted(full_set(other))
                for _ in range(20):
                    mine = [source.choice(fulls) for _ in range(posts)]
                    parts = [at_left(one, full) for full in mine]
                    its = [source.choice([full for full in others if at_left(other, full) == row] or others)
                           for row in parts]
                    paper = ("alike", tuple(mine), tuple(its))
                    truth = is_right_paper(one, other, paper)
                    self.says(truth, one, other, paper)
                    full, bar = source.choice(fulls), source.choice(others)
                    row = at_left(one, full)
                    for paper in (("apart", 0, row, full, bar), ("apart", 1, row, full, bar),
                                  ("apart", 1, at_left(other, bar), bar, full)):
                        right = is_right_paper(one, other, paper)
                        self.says(right, one, other, paper)
                        rights += right
                    rights, wrongs = rights + truth, wrongs + (not truth)
        self.assertGreater(min(rights, wrongs), 100)

    def test_never_both(self):
        for source, one, other in self.pairs("never both", 4, 0):
            if many_posts(one) > 4 or many_posts(other) > 4 or one[0] > 3:
                continue
            word = webs.webs_paper(one, other)[0]
            if word == "alike":
                for full, bar in itertools.product(full_set(one), full_set(other)):
                    self.assertIs(webs.webs_hold(one, other, ("apart", 0, at_left(one, full), full, bar)), False)

    def test_something_otherwise(self):
        rights = wrongs = 0
        for source, one, other in self.pairs("pairs otherwise", 1, 1):
            paper = webs.webs_paper(one, other)
            for wrong in drawn(source, one_otherwise(paper), 25):
                truth = is_right_paper(one, other, wrong)
                self.says(truth, one, other, wrong)
                rights, wrongs = rights + truth, wrongs + (not truth)
            word, *shown = paper
            if word == "alike":
                fulls, others = shown
                changes = [(word, others, fulls), (word, fulls[::-1], others), (word, fulls[1:], others[1:]),
                           (word, fulls + fulls[:1], others + others[:1]), (word, fulls[::-1], others[::-1]),
                           (word, (fulls[:1] * len(fulls)), others[:1] * len(fulls)), (word, list(fulls), others),
                           (word, fulls, list(others)), ("apart", fulls, others), (word, fulls, others, ())]
            else:
                way, row, full, bar = shown
                changes = [(word, 1 - way, row, full, bar), (word, 1 - way, row, bar, full),
                           (word, way, row, bar, full), (word, bool(way), row, full, bar),
                           ("alike", way, row, full, bar), (word, way, full, row, bar),
                           (word, way, list(row), full, bar), (word, 2, row, full, bar), (word, -1, row, full, bar),
                           (word, way, row, full), (word, way, row, full, bar, bar),
                           (word, way, at_left(other, bar), full, bar)]
            for wrong in changes:
                self.says(is_right_paper(one, other, wrong), one, other, wrong)
        self.assertGreater(min(rights, wrongs), 10)

    def test_anything(self):
        one, other, third = (5, (("spring", 3),), ()), (5, (("spring", 2),), ()), (5, (("lever", 1),), (("free", 0),))
        for first, second in itertools.product((one, other, third), repeat=2):
            word, *shown = webs.webs_paper(first, second)
            for odd in odd_things() + [Thing(2, ()), one, [word, *shown]]:
                papers = [odd, (odd,), (odd, *shown), (word, *shown, odd), ("alike", odd, odd),
                          ("alike", (odd,), (odd,)), ("alike", (((odd, 0),),), (((odd, 0),),)),
                          ("apart", odd, odd, odd, odd), ("apart", odd, ((1, 3),), ((1, 3),), ((1, 2),)),
                          ("apart", 0, odd, ((1, 3),), ((1, 2),)),
                          ("apart", 0, ((1, 3),), odd, ((1, 2),)), ("apart", 0, ((1, 3),), ((1, 3),), odd)]
                for paper in papers:
                    self.says(is_right_paper(first, second, paper), first, second, paper)
            for wide in (endless(tuple, 3), endless(list, 3), endless(tuple, 5), endless(tuple, 1000)):
                for paper in (wide, ("alike", wide, wide), ("alike", (wide,), (wide,)),
                              ("apart", wide, wide, wide, wide), ("apart", 0, wide, ((1, 3),), ((1, 2),)),
                              ("apart", 0, ((1, 3),), wide, wide)):
                    self.assertIs(webs.webs_hold(first, second, paper), False)


def fold_by_the_words(web, numbers):
    """A web folded, post by post, as [30] has it; None where more than ten posts would be left by its ties."""
    p, gadgets, ties = web
    parts = parts_of_web(web)
    inner = [post for k in numbers for post in parts[k]]
    gone = [tie for tie in ties if set(tie[1:]) <= set(inner)]
    names = [post for post in inner if not any(post in tie[1:] for tie in gone)]
    if len(names) > 10:
        return None
    fold = (p, tuple(gadgets[k] for k in numbers),
            tuple((tie[0], *[inner.index(post) for post in tie[1:]]) for tie in gone))
    told = webs.thing_of(fold).told()
    others = [k for k in range(len(gadgets)) if k not in numbers]
    new = [post for k in others for post in parts[k]] + names
    kept = tuple((tie[0], *sorted(new.index(post) for post in tie[1:])) for tie in ties if tie not in gone)
    found = (p, tuple(gadgets[k] for k in others) + (("table", told[1], told[2]),), kept)
    old_left = left_by_the_words(web)
    return found, tuple(old_left.index(new[post]) for post in left_by_the_words(found))


class Folded(Told):
    def test_told_ones(self):
        web = (7, (("spring", 2), ("knot", 3), ("spring", 3)), (("join", 0, 1), ("join", 2, 4)))
        self.assertEqual(webs.folded(web, (0, 1)), ((7, (("spring", 3), ("table", (0, 1), ((2, 6), (6, 0)))),
                                                     (("join", 0, 1),)), (0,)))
        self.assertEqual(webs.folded(web, (0, 1, 2)), ((7, (("table", (0,), ((5,),)),), ()), (0,)))
        self.assertEqual(webs.folded(web, (0,)), ((7, (("knot", 3), ("spring", 3), ("table", (0,), ((2,),))),
                                                   (("join", 0, 4), ("join", 1, 3))), (0,)))
        self.assertEqual(webs.folded((5, (("lever", 2), ("spring", 1)), ()), (0,)),
                         ((5, (("spring", 1), ("table", (0, 1), ((0, 3), (3, 0)))), ()), (2, 0, 1)))
        self.assertEqual(webs.folded((5, (("spring", 2), ("spring", 1)), (("still", 0), ("free", 1))), (0,)),
                         ((5, (("spring", 1), ("table", (), ())), (("free", 0),)), ()))

    def check(self, web, numbers):
        right = fold_by_the_words(web, numbers)
        if right is None:
            self.refuses(TooMany, "bound", 10, webs.folded, web, numbers)
            return 1
        told, order = kept_as_is(self, webs.folded, web, numbers)
        self.assertEqual(spelled((told, order)), spelled(right))
        self.assertIsNone(webs.web_fault(told))
        self.assertEqual(webs.thing_of(told), ordered(webs.thing_of(web), order))
        return 0

    def test_all_groups_of_gadgets(self):
        for source, web in small_webs("folded", 4):
            many = len(web[1])
            for some in range(1, many + 1):
                for numbers in itertools.combinations(range(many), some):
                    self.check(web, numbers)

    def test_going_through_all_full_rows(self):
        for source, web in small_webs("folded full", 4):
            if not web[1]:
                continue
            many = source.randint(1, len(web[1]))
            told, order = webs.folded(web, tuple(sorted(source.sample(range(len(web[1])), many))))
            let = {at_left(web, full) for full in full_set(web)}
            self.assertEqual(stands_of(webs.thing_of(told)), {tuple(row[k] for k in order) for row in let})

    def test_some_of_many(self):
        refused = 0
        for source, web in web_samples("folded many", 8):
            if web[1]:
                many = len(web[1])
                for some in (1, source.randint(1, many), source.randint(1, many), many):
                    refused += self.check(web, tuple(sorted(source.sample(range(many), some))))
        self.assertGreater(refused, 0)

    def test_too_many_posts_left(self):
        for p in PRIMES:
            web = (p, (("knot", 10), ("spring", 1), ("ring", 9)), (("join", 0, 10), *[("join", k, k + 10)
                                                                                      for k in range(1, 10)]))
            self.assertIsNone(webs.web_fault(web))
            self.check(web, (0,))
            self.check(web, (0, 1, 2))
            self.check(web, (1, 2))
            self.check(web, (0, 1))
            self.assertEqual(self.check((p, (("knot", 10), ("spring", 1), ("ring", 9)), web[2][1:]), (0, 1)), 1)
            self.assertEqual(self.check((p, (("knot", 10), ("spring", 1), ("ring", 9)), web[2][1:]), (0, 1, 2)), 0)

    def test_again_and_again(self):
        source = dice("again")
        for p in PRIMES:
            web = any_web(source, p, 6, 12)
            thing, order = webs.thing_of(web), tuple(range(len(left_by_the_words(web))))
            while len(web[1]) > 1:
                try:
                    web, more = webs.folded(web, tuple(sorted(source.sample(range(len(web[1])), 2))))
                except TooMany:
                    continue
                order = tuple(order[k] for k in more)
                self.assertEqual(webs.thing_of(web), ordered(thing, order))


if __name__ == "__main__":
    unittest.main()
