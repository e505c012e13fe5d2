"""What holds over the whole program: histories of benches, their webs, texts and papers."""

import unittest

from fairposts.benches import Bench
from fairposts.curtains import Curtain, judged_holds
from fairposts.desks import Desk
from fairposts.errors import PostError
from fairposts.exchanges import way, way_holds
from fairposts.gadgets import made
from fairposts.holds import all_holds, hold_paper, paper_holds, stands
from fairposts.parts import part_of, parts_of
from fairposts.spans import in_holds, in_paper
from fairposts.texts import read_web, web_text
from fairposts.ties import beside, ordered
from fairposts.things import Thing
from fairposts.webs import folded, let_holds, let_paper, thing_of, webs_hold, webs_paper
from tests.helper import (
    PRIMES, Told, a_stand, any_gadget, any_hold, any_row, dice, parts_of_web, put_otherwise, spelled,
)


def any_deed(source, bench):
    """A made-up deed, such that the posts left are not soon too many."""
    posts = bench.posts()
    if len(posts) < 2 or (len(posts) < 7 and source.randrange(2)):
        return "put", any_gadget(source, bench.web()[0], source.choice((1, 2, 3, 4)))
    word = source.choice(("join", "join", "still", "free", "exchange", "hold", "hold", "back"))
    told = {"back": 0, "still": 1, "free": 1, "exchange": source.choice((1, 2))}.get(word, 2)
    if word == "hold":
        return word, source.choice(posts), source.randrange(bench.web()[0])
    return word, *source.sample(posts, told)


def histories(name, times=4, deeds=30):
    """(source, bench) of benches with made-up histories behind them."""
    for p in PRIMES:
        for turn in range(times):
            source = dice(f"{name} {p} {turn}")
            bench = Bench(p)
            for _ in range(source.randrange(deeds)):
                word, *told = any_deed(source, bench)
                try:
                    getattr(bench, word)(*told)
                except PostError:
                    pass
            yield source, bench


def put_anew(source, web):
    """A bench with the same gadgets put in another order and tied in another order, each tie as soon as it can be.

    Told are the bench and, for each of its posts left, which one of the web's posts left it is; None where too many
    posts would be left in between.
    """
    p, gadgets, ties = web
    parts = parts_of_web(web)
    bench, names = Bench(p), []
    waiting = source.sample(ties, len(ties))
    for k in source.sample(range(len(gadgets)), len(gadgets)):
        try:
            bench.put(gadgets[k])
        except PostError:
            return None
        names += parts[k]
        for tie in [tie for tie in waiting if set(tie[1:]) <= set(names)]:
            waiting.remove(tie)
            getattr(bench, tie[0])(*[names.index(post) for post in tie[1:]])
    left = [post for its in parts for post in its if not any(post in tie[1:] for tie in ties)]
    return bench, tuple(left.index(names[post]) for post in bench.posts())


class Whole(Told):
    def test_what_is_let_be_hangs_on_the_web_alone(self):
        seen = 0
        for source, bench in histories("the web alone", 6):
            web = read_web(web_text(bench.web()))
            self.assertEqual(spelled(web), spelled(bench.web()))
            self.assertEqual(thing_of(web), bench.thing())
            for _ in range(3):
                anew = put_anew(source, web)
                if anew:
                    other, order = anew
                    self.assertEqual(other.thing(), ordered(bench.thing(), order))
                    seen += 1
        self.assertGreater(seen, 60)

    def test_folded_webs_let_be_the_same(self):
        for source, bench in histories("folds"):
            many = len(bench.web()[1])
            if many:
                some = tuple(sorted(source.sample(range(many), source.randint(1, many))))
                try:
                    web, order = folded(bench.web(), some)
                except PostError:
                    continue
                self.assertEqual(thing_of(web), ordered(bench.thing(), order))
                self.assertEqual(read_web(web_text(web)), web)

    def test_some_hold_always_stands_and_ways_lead(self):
        for source, bench in histories("ways"):
            found = all_holds(bench.thing())
            self.assertIn(bench.sides(), found)
            other = source.choice(found)
            numbers = bench.stand()
            walker = bench.twin()
            for posts in way(bench.thing(), bench.sides(), other):
                names = [walker.posts()[place] for place in posts]
                try:
                    walker.exchange(*names)
                except PostError:
                    self.assertEqual(len(walker), 60)
                    break
                self.assertEqual(walker.stand(), numbers)
            else:
                self.assertEqual(walker.sides(), other)

    def test_papers_that_are_told_are_let_by(self):
        for source, bench in histories("papers", 3):
            p, thing, web = bench.web()[0], bench.thing(), bench.web()
            posts, rows = thing.posts(), thing.rows()
            hold, row = any_hold(source, posts), source.choice((a_stand(source, thing), any_row(source, p, posts)))
            standing = all_holds(thing)
            one, other = source.choice(standing), source.choice(standing)
            curtain = Curtain(p, posts)
            for stand in [a_stand(source, thing) for _ in range(source.randrange(posts + 1))]:
                curtain.tell(stand)
            kept = curtain.kept()
            told = thing.told()
            table_web = (p, (("table", told[1], told[2]),), ())
            judges = [(lambda paper: in_holds(p, posts, rows, row, paper), in_paper(p, posts, rows, row)),
                      (lambda paper: paper_holds(thing, hold, paper), hold_paper(thing, hold)),
                      (lambda paper: way_holds(thing, one, other, paper), way(thing, one, other)),
                      (lambda paper: let_holds(web, row, paper), let_paper(web, row)),
                      (lambda paper: webs_hold(web, table_web, paper), webs_paper(web, table_web)),
                      (lambda paper: judged_holds(p, posts, kept, hold, paper), curtain.judged(hold))]
            for judge, paper in judges:
                self.assertIs(judge(paper), True)
                for _ in range(10):
                    self.assertIn(judge(put_otherwise(source, paper)), (True, False))
            # The word of a paper says what is so: with the other word nothing is let by.
            self.assertEqual(judges[0][1][0], "sum" if thing.has(row) else "bar")
            self.assertEqual(judges[1][1][0], "table" if stands(thing, hold) else "still")
            self.assertEqual(judges[3][1][0], "let" if thing.has(row) else "bar")
            self.assertEqual(judges[4][1][0], "alike")

    def test_changed_papers_say_what_is_so_where_they_are_let_by(self):
        right = 0
        for source, bench in histories("changed", 3):
            p, thing, web = bench.web()[0], bench.thing(), bench.web()
            posts, rows = thing.posts(), thing.rows()
            for _ in range(8):
                row, hold = any_row(source, p, posts), any_hold(source, posts)
                for word in ("sum", "bar", "let"):
                    for paper in (in_paper(p, posts, rows, row), let_paper(web, row)):
                        changed = put_otherwise(source, (word, paper[1]))
                        if in_holds(p, posts, rows, row, changed):
                            self.assertEqual(changed[0] == "sum", thing.has(row))
                            right += 1
                        if let_holds(web, row, changed):
                            self.assertEqual(changed[0] == "let", thing.has(row))
                            right += 1
                for word in ("table", "still"):
                    changed = put_otherwise(source, (word, hold_paper(thing, hold)[1]))
                    if paper_holds(thing, hold, changed):
                        self.assertEqual(changed[0] == "table", stands(thing, hold))
                        right += 1
        self.assertGreater(right, 20)

    def test_the_thing_of_a_bench_behind_a_curtain(self):
        for source, bench in histories("curtain"):
            thing = bench.thing()
            curtain = Curtain(thing.p(), thing.posts())
            told = bench.twin()
            for post in told.posts():
                # With one number held alone each stand is free of those ahead.
                try:
                    told.hold(post, 1)
                except PostError:
                    break
                curtain.tell(told.stand())
                self.assertTrue(curtain.fits(thing))
            for row in thing.rows():
                curtain.tell(row)
            self.assertEqual(curtain.things(), [thing])
            hold = any_hold(source, thing.posts())
            self.assertEqual(curtain.judged(hold)[0], "table" if stands(thing, hold) else "still")

    def test_parts_of_a_bench(self):
        for source, bench in histories("parts"):
            thing = bench.thing()
            whole, order = Thing(thing.p(), ()), ()
            for group in parts_of(thing):
                whole, order = beside(whole, part_of(thing, group)), order + group
            self.assertEqual(ordered(whole, tuple(order.index(post) for post in range(thing.posts()))), thing)

    def test_a_desk_does_as_its_text_says(self):
        for source, bench in histories("desk text"):
            desk = Desk(bench.web()[0])
            answers = []
            for row in web_text(bench.web()).split("\n")[1:-1]:
                is_tie = row.split(" ")[0] in ("join", "still", "free")
                answers.append(desk.say(row if is_tie else "put " + row))
            if "refused TooMany" not in answers:
                self.assertEqual(desk.bench.web(), bench.web())
                self.assertEqual(desk.bench.thing(), bench.thing())

    def test_gadgets_alone_on_a_bench(self):
        source = dice("alone")
        for p in PRIMES:
            for _ in range(10):
                gadget = any_gadget(source, p, 10)
                bench = Bench(p)
                bench.put(gadget)
                self.assertEqual(bench.thing(), made(p, gadget))


if __name__ == "__main__":
    unittest.main()
