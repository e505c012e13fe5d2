import copy
import inspect
import itertools
import unittest

from fairposts import benches
from fairposts.benches import Bench
from fairposts.errors import BadGadget, BadNumber, BadPost, BadThing, NoBack, PostError, Still, TooMany
from fairposts.gadgets import knot
from fairposts.holds import mended, read, stands, still_hands
from fairposts.things import Thing
from fairposts.webs import thing_of, web_fault
from tests.helper import (
    PRIMES, Told, any_gadget, dice, endless, is_gadget_by_the_words, left_by_the_words, odd_things, one_otherwise,
    parts_of_web, posts_of_gadget, put_otherwise, spelled,
)

WORDS = ("put", "join", "still", "free", "exchange", "hold", "back")


class Model:
    """A bench as [31] to [34] have it: each time all is made anew of the web."""

    def __init__(self, p, most):
        self.most, self.log, self.past = most, [], []
        self.web, self.side, self.number = (p, (), ()), {}, {}

    def posts(self):
        return left_by_the_words(self.web)

    def sides(self):
        return tuple(self.side[post] for post in self.posts())

    def numbers(self):
        return tuple(self.number[post] for post in self.posts())

    def thing(self):
        return thing_of(self.web)

    def stand(self):
        return read(self.thing(), self.sides(), self.numbers())

    def mend(self):
        posts = self.posts()
        exchanged = tuple(posts[place] for place in mended(self.thing(), self.sides())[1])
        for post in exchanged:
            self.side[post], self.number[post] = 1 - self.side[post], 0
        return exchanged

    def refusal_of_posts(self, posts):
        for at, post in enumerate(posts):
            if type(post) is not int or post not in self.posts() or post in posts[:at]:
                return BadPost, "post", post
        return None

    def refusal_of_put(self, gadget):
        if not is_gadget_by_the_words(self.web[0], gadget):
            return BadGadget, None, None
        if len(self.web[1]) == 12:
            return TooMany, "bound", 12
        if sum(map(posts_of_gadget, self.web[1])) + posts_of_gadget(gadget) > 20:
            return TooMany, "bound", 20
        if len(self.posts()) + posts_of_gadget(gadget) > 10:
            return TooMany, "bound", 10
        return None

    def refusal(self, word, *told):
        """(class, field, value) of the refusal that is due, None where there is none, as [33] has it."""
        if word == "back":
            return None if self.past else (NoBack, None, None)
        if len(self.past) + 1 > self.most:
            return TooMany, "bound", self.most
        if word == "put":
            return self.refusal_of_put(*told)
        if word == "hold":
            bad = type(told[1]) is not int or not 0 <= told[1] < self.web[0]
            return self.refusal_of_posts(told[:1]) or ((BadNumber, "number", told[1]) if bad else None)
        posts = told[:1] if word == "exchange" and told[1:] in ((), (None,)) else told
        found = self.refusal_of_posts(posts)
        if found or word != "exchange":
            return found
        sides = tuple(1 - self.side[post] if post in posts else self.side[post] for post in self.posts())
        hands = still_hands(self.thing(), sides)
        return (Still, "hand", hands[0]) if hands else None

    def do(self, word, *told):
        """Do a deed that is not refused, and tell what it tells."""
        if word == "back":
            self.web, self.side, self.number = self.past.pop()
            return None
        self.past.append((self.web, dict(self.side), dict(self.number)))
        p, gadgets, ties = self.web
        if word == "put":
            self.web = (p, (*gadgets, told[0]), ties)
            new = parts_of_web(self.web)[-1]
            for post in new:
                self.side[post] = self.number[post] = 0
            ahead = dict(self.side)
            self.mend()
            assert all(self.side[post] == ahead[post] for post in self.posts() if post not in new)
            return tuple(new)
        if word in ("join", "still", "free"):
            self.web = (p, gadgets, (*ties, (word, *sorted(told))))
            return self.mend()
        if word == "hold":
            self.number[told[0]] = told[1]
            return None
        stand = dict(zip(self.posts(), self.stand()))
        for post in told:
            if post is not None:
                self.number[post] = stand[post][1 - self.side[post]]
                self.side[post] = 1 - self.side[post]
        return None


def any_post(source, bench, wrong):
    """A post left, or, one time of so many, anything."""
    if source.randrange(wrong) == 0 or not bench.posts():
        wide = sum(map(posts_of_gadget, bench.web()[1]))
        return source.choice([*range(wide + 1), -1, wide, True, False, None, "0", [0], (0,), 10 ** 30])
    return source.choice(bench.posts())


def any_deed(source, bench, wrong=12):
    """(word, told..): a made-up deed, right but one time of so many."""
    word = source.choice(("put", "put", "put", "join", "join", "still", "free", "exchange", "exchange", "hold", "hold",
                          "hold", "back"))
    p = bench.web()[0]
    if word == "put":
        gadget = any_gadget(source, p, source.choice((1, 2, 2, 3, 4, 10)))
        return word, put_otherwise(source, gadget) if source.randrange(wrong) == 0 else gadget
    if word == "back":
        return (word,)
    post = any_post(source, bench, wrong)
    if word in ("still", "free"):
        return word, post
    if word == "hold":
        number = source.choice((p, -1, True, None, "1", [0])) if source.randrange(wrong) == 0 else source.randrange(p)
        return word, post, number
    if word == "exchange" and source.randrange(2):
        return source.choice(((word, post), (word, post, None)))
    return word, post, any_post(source, bench, wrong)


class Benches(Told):
    def is_refused(self, due, asked, *told):
        kind, field, value = due
        ahead = copy.deepcopy(told)
        with self.assertRaises(PostError) as caught:
            asked(*told)
        self.assertIs(type(caught.exception), kind)
        if field:
            self.assertEqual(spelled(getattr(caught.exception, field)), spelled(value))
        self.assertEqual(spelled(told), spelled(ahead))

    def stands_as(self, model, bench):
        self.assertEqual(spelled(bench.web()), spelled(model.web))
        self.assertEqual(spelled(bench.posts()), spelled(model.posts()))
        self.assertEqual(spelled(bench.sides()), spelled(model.sides()))
        self.assertEqual(spelled(bench.numbers()), spelled(model.numbers()))
        self.assertEqual(spelled(bench.stand()), spelled(model.stand()))
        self.assertEqual(spelled(bench.log()), spelled(tuple(model.log)))
        self.is_thing(bench.thing(), model.web[0], len(model.posts()))
        self.assertEqual(bench.thing(), model.thing())
        self.assertTrue(stands(bench.thing(), bench.sides()))
        self.assertEqual(len(bench), len(model.past))
        self.assertEqual(str(bench), f"bench of {len(model.posts())} posts round {model.web[0]}")
        for post, side, (push, answer) in zip(bench.posts(), bench.sides(), bench.stand()):
            self.assertEqual(spelled(bench.read(post)), spelled((answer, push)[side]))
        self.assertIsNone(web_fault(bench.web()))

    def goes_on(self, model, bench, word, *told):
        """Ask a deed of both, and tell the name of what came of it."""
        due = model.refusal(word, *told)
        ahead = bench.twin()
        if due:
            self.is_refused(due, getattr(bench, word), *told)
            self.assertEqual(bench, ahead)
        else:
            answer = getattr(bench, word)(*told)
            self.assertEqual(spelled(answer), spelled(model.do(word, *told)))
        how = due[0].__name__ if due else "done"
        model.log.append((word, how))
        return how


class Histories(Benches):
    def test_drawn_histories(self):
        seen = {}
        for p in PRIMES:
            for turn in range(8):
                source = dice(f"history {p} {turn}")
                most = source.choice((60, 60, 60, 25, 7))
                bench, model = Bench(p, most=most), Model(p, most)
                for _ in range(60):
                    word, *told = any_deed(source, bench)
                    how = self.goes_on(model, bench, word, *told)
                    seen[word, how] = seen.get((word, how), 0) + 1
                    self.stands_as(model, bench)
        for word in WORDS:
            self.assertGreater(seen[word, "done"], 20, seen)
        for due in (("put", "BadGadget"), ("put", "TooMany"), ("join", "BadPost"), ("still", "BadPost"),
                    ("free", "BadPost"), ("exchange", "BadPost"), ("exchange", "Still"), ("hold", "BadPost"),
                    ("hold", "BadNumber"), ("back", "NoBack"), ("join", "TooMany")):
            self.assertGreater(seen.get(due, 0), 0, (due, seen))

    def test_many_small_gadgets(self):
        hows = {}
        for p in PRIMES:
            source = dice(f"many small {p}")
            bench, model = Bench(p), Model(p, 60)
            for _ in range(70):
                if source.randrange(2):
                    deed = ("put", any_gadget(source, p, source.choice((1, 1, 2))))
                elif len(bench.posts()) > 5:
                    deed = ("join", *source.sample(bench.posts(), 2))
                else:
                    deed = any_deed(source, bench)
                how = self.goes_on(model, bench, *deed)
                hows[how] = True
                self.stands_as(model, bench)
        self.assertIn("TooMany", hows)

    def test_the_held_numbers_stay_where_the_same_side_is_held(self):
        for p in PRIMES:
            source = dice(f"stay {p}")
            bench = Bench(p)
            for _ in range(50):
                word, *told = any_deed(source, bench, 10 ** 6)
                ahead = {post: (side, number) for post, side, number
                         in zip(bench.posts(), bench.sides(), bench.numbers())}
                try:
                    answer = getattr(bench, word)(*told)
                except PostError:
                    continue
                if word in ("put", "join", "still", "free"):
                    for post, side, number in zip(bench.posts(), bench.sides(), bench.numbers()):
                        if word != "put" and post in answer or post not in ahead:
                            self.assertEqual(number, 0)
                        else:
                            self.assertEqual((side, number), ahead[post])

    def test_an_exchange_keeps_the_stand(self):
        seen = 0
        for p in PRIMES:
            source = dice(f"keeps {p}")
            bench = Bench(p)
            for gadget in (("knot", 3), ("spring", 1), ("lever", 1), ("ring", 3)):
                bench.put(gadget)
            for post in bench.posts():
                bench.hold(post, source.randrange(p))
            for _ in range(40):
                stand, sides = bench.stand(), bench.sides()
                posts = source.sample(bench.posts(), source.randint(1, 2))
                try:
                    self.assertIsNone(bench.exchange(*posts))
                except (Still, TooMany):
                    self.assertEqual((bench.stand(), bench.sides()), (stand, sides))
                    continue
                seen += 1
                self.assertEqual(bench.stand(), stand)
                changed = [post for post, one, other in zip(bench.posts(), sides, bench.sides()) if one != other]
                self.assertEqual(sorted(posts), changed)
        self.assertGreater(seen, 20)

    def test_put_and_tied_anew_in_another_order(self):
        for p in PRIMES:
            for turn in range(4):
                source = dice(f"anew {p} {turn}")
                bench = Bench(p)
                for _ in range(50):
                    word, *told = any_deed(source, bench, 10 ** 6)
                    try:
                        getattr(bench, word)(*told)
                    except PostError:
                        pass
                other = Bench(p)
                ties = source.sample(bench.web()[2], len(bench.web()[2]))
                for gadget in bench.web()[1]:
                    try:
                        other.put(gadget)
                    except TooMany:
                        break
                else:
                    for word, *posts in ties:
                        getattr(other, word)(*source.sample(posts, len(posts)))
                    self.assertEqual(other.thing(), bench.thing())
                    self.assertEqual(other.posts(), bench.posts())
                    self.assertIs(other == bench, other.web()[2] == bench.web()[2] and other.sides() == bench.sides()
                                  and other.numbers() == bench.numbers())


class ToldOnes(Benches):
    def test_a_new_bench(self):
        self.assertEqual(benches.DEEDS, 60)
        for p in PRIMES:
            bench = Bench(p)
            self.stands_as(Model(p, 60), bench)
            self.assertEqual((bench.posts(), bench.sides(), bench.numbers(), bench.stand()), ((), (), (), ()))
            self.assertEqual((bench.web(), bench.log(), len(bench)), ((p, (), ()), (), 0))
            self.assertEqual(bench.thing(), Thing(p, ()))
            self.assertEqual(str(bench), f"bench of 0 posts round {p}")

    def test_most_is_handed_in_by_its_name(self):
        parameters = inspect.signature(Bench).parameters
        self.assertEqual([one.kind for one in parameters.values()],
                         [inspect.Parameter.POSITIONAL_OR_KEYWORD, inspect.Parameter.KEYWORD_ONLY])
        self.assertEqual(parameters["most"].default, 60)
        with self.assertRaises(TypeError):
            Bench(5, 60)

    def test_deeds(self):
        bench = Bench(7)
        self.assertEqual(bench.put(("spring", 2)), (0,))
        self.assertEqual(bench.put(("knot", 3)), (1, 2, 3))
        self.assertEqual(bench.sides(), (0, 1, 1, 0))
        self.assertIsNone(bench.hold(3, 4))
        self.assertIsNone(bench.hold(2, 1))
        self.assertEqual(bench.stand(), ((0, 0), (4, 0), (4, 1), (4, 6)))
        self.assertEqual(bench.join(1, 0), ())
        self.assertEqual(bench.web(), (7, (("spring", 2), ("knot", 3)), (("join", 0, 1),)))
        self.assertEqual((bench.posts(), bench.sides(), bench.numbers()), ((2, 3), (1, 0), (1, 4)))
        self.assertEqual(bench.stand(), ((4, 1), (4, 0)))
        self.assertEqual((bench.read(2), bench.read(3)), (4, 0))
        self.assertIsNone(bench.exchange(3))
        self.assertEqual((bench.sides(), bench.numbers()), ((1, 1), (1, 0)))
        self.is_refused((Still, "hand", ((0, 1), (0, 6))), bench.exchange, 3, 2)
        self.assertEqual(bench.still(3), ())
        self.assertEqual((bench.posts(), bench.sides(), bench.numbers()), ((2,), (1,), (1,)))
        self.assertEqual(bench.stand(), ((0, 1),))
        self.assertEqual(str(bench), "bench of 1 posts round 7")
        self.assertEqual(bench.log()[-3:], (("exchange", "done"), ("exchange", "Still"), ("still", "done")))
        self.assertIsNone(bench.back())
        self.assertEqual((bench.posts(), bench.sides()), ((2, 3), (1, 1)))
        self.assertEqual(bench.log()[-2:], (("still", "done"), ("back", "done")))

    def test_mending_tells_the_posts_numbers(self):
        bench = Bench(5)
        self.assertEqual((bench.put(("knot", 2)), bench.put(("knot", 2))), ((0, 1), (2, 3)))
        self.assertEqual(bench.sides(), (1, 0, 1, 0))
        bench.hold(0, 2)
        bench.hold(3, 4)
        self.assertEqual(bench.still(1), ())
        self.assertEqual((bench.posts(), bench.sides(), bench.numbers()), ((0, 2, 3), (1, 1, 0), (2, 0, 4)))
        self.assertEqual(bench.still(2), (3,))
        self.assertEqual((bench.posts(), bench.sides(), bench.numbers()), ((0, 3), (1, 1), (2, 0)))

    def test_bounds(self):
        for p in PRIMES:
            bench = Bench(p)
            for k in range(12):
                bench.put(("table", (), ()))
            self.is_refused((TooMany, "bound", 12), bench.put, ("table", (), ()))
            self.is_refused((TooMany, "bound", 12), bench.put, ("knot", 10))
            self.is_refused((BadGadget, None, None), bench.put, ("knot", 11))
            self.assertEqual(bench.log()[-3:], (("put", "TooMany"), ("put", "TooMany"), ("put", "BadGadget")))
            bench = Bench(p)
            bench.put(("knot", 10))
            self.is_refused((TooMany, "bound", 10), bench.put, ("spring", 0))
            self.is_refused((TooMany, "bound", 10), bench.put, ("ring", 10))
            self.assertEqual(bench.put(("table", (), ())), ())
            for post in range(10):
                bench.still(post)
            self.assertEqual(bench.put(("ring", 10)), tuple(range(10, 20)))
            self.is_refused((TooMany, "bound", 20), bench.put, ("spring", 0))
            self.assertEqual(bench.put(("table", (), ())), ())
            self.assertEqual(len(bench), 14)

    def test_p(self):
        for p in odd_things() + [0, 1, 4, 6, 9, 15, -2, 2 + 2 ** 64, "13", Thing(2, ()), Bench(2), endless(list, 1000)]:
            if type(p) is int and p == 13:
                continue
            with self.assertRaises(PostError) as caught:
                Bench(p)
            self.assertIs(type(caught.exception), BadThing)
            self.assertEqual(caught.exception.place, ("p",))


class Refused(Benches):
    def start(self, most=60):
        """A bench and its model with some deeds behind them."""
        bench, model = Bench(5, most=most), Model(5, most)
        for deed in (("put", ("knot", 3)), ("put", ("spring", 0)), ("put", ("lever", 2)), ("still", 1), ("join", 0, 3)):
            self.goes_on(model, bench, *deed)
        return bench, model

    def test_at_the_most_of_deeds(self):
        for most in (0, 1, 2, 5):
            bench, model = self.start(most)
            self.assertEqual(len(bench), most)
            for deed in (("put", ("spring", 1)), ("put", None), ("join", 9, 9), ("still", 0), ("free", "x"),
                         ("exchange", 0), ("exchange", None, None), ("hold", 0, 0), ("hold", [], {})):
                self.assertEqual(self.goes_on(model, bench, *deed), "TooMany")
                self.stands_as(model, bench)
            if most:
                self.assertEqual(self.goes_on(model, bench, "back"), "done")
                self.assertEqual(self.goes_on(model, bench, "put", ("spring", 9)), "BadGadget")
                self.assertEqual(self.goes_on(model, bench, "put", ("spring", 1)), "done")
                self.assertEqual(self.goes_on(model, bench, "put", ("spring", 9)), "TooMany")
            else:
                self.assertEqual(self.goes_on(model, bench, "back"), "NoBack")
            self.stands_as(model, bench)

    def test_at_sixty_deeds(self):
        bench, model = Bench(3), Model(3, 60)
        self.goes_on(model, bench, "put", ("spring", 1))
        for k in range(59):
            self.assertEqual(self.goes_on(model, bench, "hold", 0, k % 3), "done")
        self.assertEqual(self.goes_on(model, bench, "hold", 0, 0), "TooMany")
        self.assertEqual(self.goes_on(model, bench, "back"), "done")
        self.assertEqual(self.goes_on(model, bench, "hold", 0, 5), "BadNumber")
        self.assertEqual(self.goes_on(model, bench, "exchange", 0), "done")
        self.assertEqual(self.goes_on(model, bench, "exchange", 0), "TooMany")
        self.stands_as(model, bench)

    def test_gadgets(self):
        bench, model = self.start()
        for odd in odd_things() + [("spring", 5), ("spring", True), ("knot", 1), ("knot", 11), ["spring", 1],
                                   knot(5, 2), ("table", (0,), ((5,),)), ("table", (0, 0), ((0, 1), (2, 0))), Bench(5)]:
            self.assertEqual(self.goes_on(model, bench, "put", odd), "BadGadget")
        for gadget in (("spring", 3), ("ring", 2), ("table", (0, 1), ((1, 2), (2, 3)))):
            for other in one_otherwise(gadget):
                if self.goes_on(model, bench, "put", other) == "done":
                    self.goes_on(model, bench, "back")
        self.stands_as(model, bench)
        for wide in (endless(tuple, 2), endless(list, 2), endless(tuple, 3), endless(tuple, 1000)):
            with self.assertRaises(BadGadget):
                bench.put(wide)

    def test_posts(self):
        bench, model = self.start()
        posts = bench.posts()
        self.assertEqual(posts, (2, 4, 5))
        odds = odd_things() + [0, 1, 3, 6, -1, True, False, 2 + 2 ** 64, "2", [2], (2,), Bench(5), knot(5, 2)]
        for odd in odds:
            if type(odd) is int and odd in posts:
                continue
            for deed in (("still", odd), ("free", odd), ("hold", odd, 0), ("hold", odd, 9), ("join", odd, 2),
                         ("join", 2, odd), ("join", odd, odd), ("join", odd, None), ("exchange", odd),
                         ("exchange", odd, 2), ("exchange", odd, odd), ("exchange", odd, None)):
                self.assertEqual(self.goes_on(model, bench, *deed), "BadPost", deed)
            self.is_refused((BadPost, "post", odd), bench.read, odd)
            if odd is not None:
                self.assertEqual(self.goes_on(model, bench, "exchange", 2, odd), "BadPost")
        for post in posts:
            self.assertEqual(self.goes_on(model, bench, "join", post, post), "BadPost")
            self.assertEqual(self.goes_on(model, bench, "exchange", post, post), "BadPost")
        self.stands_as(model, bench)

    def test_the_very_thing_is_told(self):
        bench = self.start()[0]
        wide = endless(tuple, 1000)
        for asked, told in ((bench.still, (wide,)), (bench.free, (wide,)), (bench.join, (wide, 2)),
                            (bench.read, (wide,)), (bench.join, (2, wide)), (bench.exchange, (wide,)),
                            (bench.exchange, (2, wide)), (bench.hold, (wide, 0)), (bench.hold, (wide, wide))):
            with self.assertRaises(BadPost) as caught:
                asked(*told)
            self.assertIs(caught.exception.post, wide)
        with self.assertRaises(BadNumber) as caught:
            bench.hold(2, wide)
        self.assertIs(caught.exception.number, wide)

    def test_numbers(self):
        bench, model = self.start()
        for odd in odd_things() + [5, 6, -1, True, False, 2 ** 64, "1", [1], (1,), Bench(5), knot(5, 2)]:
            self.assertEqual(self.goes_on(model, bench, "hold", 4, odd), "BadNumber")
            self.assertEqual(self.goes_on(model, bench, "hold", 0, odd), "BadPost")
        for number in range(5):
            self.assertEqual(self.goes_on(model, bench, "hold", 4, number), "done")
        self.stands_as(model, bench)

    def test_still(self):
        bench = Bench(5)
        bench.put(("spring", 0))
        bench.put(("lever", 2))
        bench.put(("knot", 2))
        self.assertEqual(bench.posts(), (0, 1, 2, 3, 4))
        self.is_refused((Still, "hand", ((1, 0), *((0, 0),) * 4)), bench.exchange, 0)
        bench.still(0)
        self.assertEqual(bench.sides(), (1, 0, 1, 0))
        self.is_refused((Still, "hand", ((0, 1), (0, 2), (0, 0), (0, 0))), bench.exchange, 1)
        self.assertEqual(bench.log()[-1], ("exchange", "Still"))
        self.assertIsNone(bench.exchange(4, 3))
        self.assertIsNone(bench.exchange(1, 2))

    def test_exchange_in_either_order(self):
        for one, other in itertools.permutations((1, 2), 2):
            bench = Bench(7)
            bench.put(("spring", 3))
            bench.put(("lever", 2))
            bench.hold(0, 1)
            bench.hold(1, 3)
            ahead, stand = bench.sides(), bench.stand()
            bench.exchange(one, other)
            self.assertEqual(bench.sides(), (ahead[0], 1 - ahead[1], 1 - ahead[2]))
            self.assertEqual(bench.stand(), stand)

    def test_read_is_no_deed(self):
        bench = self.start()[0]
        log, many = bench.log(), len(bench)
        for post in bench.posts():
            bench.read(post)
        for post in (0, None, 99, "2"):
            self.is_refused((BadPost, "post", post), bench.read, post)
        self.assertEqual((bench.log(), len(bench)), (log, many))


class Back(Benches):
    def test_back_to_the_first_bench(self):
        for p in PRIMES:
            source = dice(f"back {p}")
            bench = Bench(p)
            seen = [bench.twin()]
            for _ in range(40):
                word, *told = any_deed(source, bench)
                if word == "back":
                    continue
                try:
                    getattr(bench, word)(*told)
                except PostError:
                    continue
                seen.append(bench.twin())
            self.assertGreater(len(seen), 10)
            log = bench.log()
            while len(seen) > 1:
                self.assertEqual(len(bench), len(seen) - 1)
                seen.pop()
                self.assertIsNone(bench.back())
                log += (("back", "done"),)
                self.assertEqual(bench, seen[-1])
                self.assertEqual((bench.web(), bench.sides(), bench.numbers(), bench.stand(), bench.thing()),
                                 (seen[-1].web(), seen[-1].sides(), seen[-1].numbers(), seen[-1].stand(),
                                  seen[-1].thing()))
                self.assertEqual(bench.log(), log)
            self.assertEqual(bench, Bench(p))
            for _ in range(2):
                self.is_refused((NoBack, None, None), bench.back)
                log += (("back", "NoBack"),)
                self.assertEqual(bench.log(), log)
                self.assertEqual((bench, len(bench)), (Bench(p), 0))

    def test_numbers_are_given_anew_behind_back_alone(self):
        bench = Bench(5)
        bench.put(("lever", 1))
        bench.still(0)
        bench.still(1)
        self.assertEqual(bench.put(("spring", 1)), (2,))
        bench.back()
        self.assertEqual(bench.put(("knot", 2)), (2, 3))


class Alike(Benches):
    def made(self, *deeds, p=5, most=60):
        bench = Bench(p, most=most)
        for word, *told in deeds:
            getattr(bench, word)(*told)
        return bench

    def test_equal(self):
        put = [("put", ("lever", 2)), ("put", ("spring", 1)), ("put", ("knot", 2))]
        one = self.made(*put)
        for other in (self.made(*put), self.made(*put, most=3), self.made(*put, ("hold", 0, 1), ("back",)),
                      self.made(*put, ("hold", 0, 1), ("hold", 0, 0)), self.made(*put, ("hold", 0, 0))):
            self.assertIs(one == other, True)
            self.assertIs(one != other, False)
        for other in (self.made(), self.made(*put[:2]), self.made(*put, ("hold", 0, 1)), self.made(*put, p=7),
                      self.made(*put, ("still", 0)), self.made(*put, ("exchange", 2)), self.made(*put[::-1]),
                      self.made(("put", ("lever", 3)), *put[1:])):
            self.assertIs(one == other, False)
            self.assertIs(one != other, True)

    def test_the_ties_in_their_order(self):
        put = ("put", ("knot", 4))
        one, other = self.made(put, ("still", 0), ("free", 1)), self.made(put, ("free", 1), ("still", 0))
        self.assertEqual((one.thing(), one.posts(), one.sides(), one.numbers()),
                         (other.thing(), other.posts(), other.sides(), other.numbers()))
        self.assertIs(one == other, False)
        self.assertIs(self.made(put, ("join", 0, 1)) == self.made(put, ("join", 1, 0)), True)

    def test_without_posts_round_another_prime(self):
        for p, q in itertools.product(PRIMES, repeat=2):
            self.assertIs(Bench(p) == Bench(q), p == q)

    def test_nothing_else(self):
        bench = self.made(("put", ("spring", 1)))
        for odd in odd_things() + [bench.thing(), bench.web(), bench.stand(), str(bench), Thing(5, ())]:
            self.assertIs(bench == odd, False)
            self.assertIs(odd == bench, False)
            self.assertIs(bench != odd, True)

    def test_twins_go_their_own_way(self):
        for p in PRIMES:
            source = dice(f"twins {p}")
            for most in (60, 12):
                bench, model = Bench(p, most=most), Model(p, most)
                for _ in range(15):
                    self.goes_on(model, bench, *any_deed(source, bench))
                twin, other = bench.twin(), copy.deepcopy(model)
                self.assertIsNot(twin, bench)
                self.assertIs(type(twin), Bench)
                self.assertEqual(twin, bench)
                self.stands_as(model, twin)
                for _ in range(25):
                    self.goes_on(model, bench, *any_deed(source, bench))
                    self.goes_on(other, twin, *any_deed(source, twin))
                    self.stands_as(model, bench)
                    self.stands_as(other, twin)
                for one, its in ((bench, model), (twin, other)):
                    while len(one):
                        self.goes_on(its, one, "back")
                    self.assertEqual(self.goes_on(its, one, "back"), "NoBack")
                    self.stands_as(its, one)

    def test_what_is_told_is_told_again(self):
        source = dice("again")
        bench = Bench(7)
        for _ in range(20):
            word, *told = any_deed(source, bench, 10 ** 6)
            try:
                getattr(bench, word)(*told)
            except PostError:
                pass
        for name in ("posts", "sides", "numbers", "stand", "web", "log"):
            first = getattr(bench, name)()
            self.assertIs(type(first), tuple)
            self.assertEqual(spelled(first), spelled(getattr(bench, name)()))
        self.assertEqual((str(bench), len(bench)), (str(bench), len(bench)))
        self.assertEqual(bench.thing(), bench.thing())


if __name__ == "__main__":
    unittest.main()
