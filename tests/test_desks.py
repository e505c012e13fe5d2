import inspect
import re
import unittest

from fairposts.benches import Bench
from fairposts.curtains import Curtain
from fairposts.desks import Desk
from fairposts.errors import BadThing, PostError
from fairposts.gadgets import knot
from fairposts.texts import gadget_text
from tests.helper import (
    PRIMES, Told, any_gadget, dice, endless, is_gadget_by_the_words, odd_things, posts_of_gadget, spelled,
)

FIGURES = re.compile("0|[1-9][0-9]{0,5}")
WORDS = {"join": (2,), "still": (1,), "free": (1,), "exchange": (1, 2), "hold": (2,), "back": (0,), "read": (1,),
         "stand": (0,), "sides": (0,), "left": (0,)}
# The word that an answer begins with, and what of the bench it tells.
TOLD = {"put": "posts", "join": "mended", "still": "mended", "free": "mended"}


def gadget_by_the_words(p, words):
    """The gadget round p whose text these words are, None where there is none."""
    if not words:
        return None
    if words[0] == "table" and len(words) > 1 and re.fullmatch("-|[01]+", words[1]):
        hold = tuple(map(int, words[1].replace("-", "")))
        if not all(FIGURES.fullmatch(number) for row in words[2:] for number in row.split(",")):
            return None
        found = ("table", hold, tuple(tuple(map(int, row.split(","))) for row in words[2:]))
    elif len(words) == 2 and FIGURES.fullmatch(words[1]):
        found = (words[0], int(words[1]))
    else:
        return None
    return found if is_gadget_by_the_words(p, found) else None


def form_of(p, row):
    """(word, what follows) of a row said, None where it is of no form, as [45] has it."""
    if type(row) is not str:
        return None
    word, *words = row.split(" ")
    if word == "put":
        gadget = gadget_by_the_words(p, words)
        return gadget and (word, [gadget])
    if len(words) not in WORDS.get(word, ()) or not all(map(FIGURES.fullmatch, words)):
        return None
    return word, [int(number) for number in words]


def answer_by_the_words(bench, row):
    """What a desk with such a bench answers, by asking the bench itself."""
    form = form_of(bench.web()[0], row)
    if form is None:
        return "refused BadRow"
    word, told = form
    if word == "stand":
        return " ".join(["stand", *[f"{push},{answer}" for push, answer in bench.stand()]])
    if word in ("sides", "left"):
        return " ".join([word, *map(str, bench.sides() if word == "sides" else bench.posts())])
    try:
        answer = getattr(bench, word)(*told)
    except PostError as refusal:
        return f"refused {type(refusal).__name__}"
    if word == "read":
        return str(answer)
    return " ".join([TOLD[word], *map(str, answer)]) if word in TOLD else "done"


def any_row(source, bench):
    """A made-up row of one of the forms; the bench may refuse it."""
    p, wide = bench.web()[0], sum(map(posts_of_gadget, bench.web()[1]))
    word = source.choice(("put", "put", "put", "put", "hold", "hold", "hold", "exchange", "exchange", *WORDS))
    if word == "put":
        return "put " + gadget_text(any_gadget(source, p, source.choice((1, 2, 3, 3, 10))))
    numbers = [source.choice(bench.posts()) if bench.posts() and source.randrange(8) else source.randrange(wide + 2)
               for _ in range(source.choice(WORDS[word]))]
    if word == "hold":
        numbers[1] = source.randrange(p + 1)
    return " ".join([word, *map(str, numbers)])


def bent(source, row):
    """A row with something in it otherwise."""
    words = row.split(" ")
    at, place = source.randrange(len(words)), source.randrange(len(row) + 1)
    return source.choice((
        row[:place] + source.choice(" ,-019aZ\n~") + row[place:], row[:place] + row[place + 1:],
        row[:place] + source.choice(" 0129x,") + row[place + 1:], row.upper(), row.capitalize(), row + " ", " " + row,
        " ".join(words[:at] + words[at + 1:]), " ".join(words[:at + 1] + words[at:]), " ".join([*words, "0"]),
        " ".join([*words[:at], "0" + words[at], *words[at + 1:]]), " ".join([*words[:at], "1" * 7, *words[at + 1:]]),
        " ".join([*words[:at], "9" * 6, *words[at + 1:]]), " ".join([*words[:at], "-1", *words[at + 1:]]),
        row + "\n", row.replace(" ", "  "), row.replace(" ", ""), row.replace(" ", "\n"), "", row + row,
        " ".join(words[::-1]), " ".join([*words[:at], "1" * 4500, *words[at + 1:]])))


class Desks(Told):
    def hears(self, desk, bench, row):
        """Say a row, and see that the answer is what the bench itself tells; tell it."""
        right = answer_by_the_words(bench, row)
        ahead, heard = spelled(row), desk.heard()
        answer = desk.say(row)
        self.assertIs(type(answer), str)
        self.assertEqual(answer, right, spelled(row)[:200])
        self.assertEqual(spelled(row), ahead)
        self.assertEqual(desk.heard(), heard + ((row, answer),) if type(row) is str else heard)
        self.assertEqual(desk.bench, bench)
        self.assertEqual((desk.bench.log(), len(desk.bench)), (bench.log(), len(bench)))
        return answer

    def test_a_new_desk(self):
        for p in PRIMES:
            desk = Desk(p)
            self.assertIs(type(desk.bench), Bench)
            self.assertEqual((desk.bench, desk.heard()), (Bench(p), ()))
            self.assertIs(type(desk.heard()), tuple)
            for row, answer in (("stand", "stand"), ("sides", "sides"), ("left", "left"), ("back", "refused NoBack"),
                                ("put table -", "posts"), ("read 0", "refused BadPost")):
                self.assertEqual(desk.say(row), answer)

    def test_told_ones(self):
        desk, bench = Desk(7), Bench(7)
        for row, answer in (
                ("put spring 2", "posts 0"), ("put knot 3", "posts 1 2 3"), ("sides", "sides 0 1 1 0"),
                ("left", "left 0 1 2 3"), ("hold 3 4", "done"), ("hold 2 1", "done"),
                ("stand", "stand 0,0 4,0 4,1 4,6"), ("join 1 0", "mended"), ("left", "left 2 3"), ("read 2", "4"),
                ("read 3", "0"), ("exchange 3", "done"), ("sides", "sides 1 1"), ("exchange 3 2", "refused Still"),
                ("exchange 2 2", "refused BadPost"), ("hold 2 7", "refused BadNumber"), ("hold 0 1", "refused BadPost"),
                ("put knot 10", "refused TooMany"), ("put knot 11", "refused BadRow"),
                ("put spring 7", "refused BadRow"), ("back", "done"), ("sides", "sides 1 0"), ("still 2", "mended 3"),
                ("free 3", "mended"), ("left", "left"), ("read 3", "refused BadPost"),
                ("put table 01 1,2 2,3", "posts 4 5"), ("hold 4 999999", "refused BadNumber"),
                ("hold 4 1000000", "refused BadRow"), ("hold 999999 0", "refused BadPost"), ("Back", "refused BadRow")):
            self.assertEqual(self.hears(desk, bench, row), answer, row)

    def test_drawn_rows(self):
        answers = {}
        for p in PRIMES:
            for turn in range(6):
                source = dice(f"desk {p} {turn}")
                most = source.choice((60, 60, 12))
                desk, bench = Desk(p, most=most), Bench(p, most=most)
                for _ in range(60):
                    row = any_row(source, bench)
                    if source.randrange(5) == 0:
                        row = bent(source, row)
                    answer = self.hears(desk, bench, row)
                    key = " ".join(answer.split(" ")[:2]) if answer.startswith("refused") else answer.split(" ")[0]
                    answers[key] = answers.get(key, 0) + 1
        for key in ("posts", "mended", "done", "stand", "sides", "left", "refused BadRow", "refused BadPost",
                    "refused BadNumber", "refused Still", "refused TooMany"):
            self.assertGreater(answers.get(key, 0), 5, (key, answers))

    def test_rows_of_no_form(self):
        for p in (2, 5, 13):
            source = dice(f"no form {p}")
            desk, bench = Desk(p), Bench(p)
            for row in ("put knot 3", "put lever 1", "still 0"):
                self.hears(desk, bench, row)
            for row in ("put", "put ", "put spring", "put spring ", "put spring 1 ", "put  spring 1", "put spring 01",
                        "put spring -1", f"put spring {p}", "put knot 1", "put knot 11", "put knot 0", "put table",
                        "put table ", "put table 0", "put table - 0", "put table 01 0,1 0,1", "put still 1", "put put",
                        "put spring 0000001", "put spring 1\n", "put join 1 2", "puts spring 1", "Put spring 1",
                        "join", "join 1", "join 1 2 3", "join  1 2", "join 1 2 ", "join 01 2", "join 1 02", "join 1,2",
                        "still", "still ", "still 1 2", "still 00", "still 1.0", "still x", "still 1000000", "still +1",
                        "free", "free 1 2", "exchange", "exchange 1 2 3", "exchange 1 ", "exchange 1 None", "hold 1",
                        "hold 1 2 3", "hold", "back ", "back 0", " back", "back back", "read", "read 1 2", "stand 0",
                        "stand ", "sides 1", "left 1", "", " ", "\n", "back\n", "posts", "web", "log", "twin",
                        "numbers", "thing", "heard", "say back", "1", "-", "BACK", "hold 1 -1", "still -1"):
                self.assertEqual(self.hears(desk, bench, row), "refused BadRow", row)
            for row in ("put knot 3", "put table 01 1,0 0,1", "join 1 2", "still 1", "free 2", "exchange 1 2",
                        "hold 1 0", "back", "read 1", "stand", "sides", "left"):
                for _ in range(25):
                    self.hears(desk, bench, bent(source, row))
                    self.hears(desk, bench, bent(source, bent(source, row)))

    def test_what_is_no_text(self):
        desk, bench = Desk(5), Bench(5)
        for row in ("put knot 2", "hold 1 2"):
            self.hears(desk, bench, row)
        for odd in odd_things() + [knot(5, 2), Bench(5), Curtain(5, 1), ["back"], ("back",), {"back": 0}]:
            self.assertEqual(self.hears(desk, bench, odd), "refused BadRow")
        self.assertEqual(desk.say(endless(tuple, 1000)), "refused BadRow")
        self.assertEqual([row for row, answer in desk.heard() if row in ("put knot 2", "hold 1 2")],
                         ["put knot 2", "hold 1 2"])

    def test_long_rows(self):
        desk, bench = Desk(5), Bench(5)
        for row in ("put spring " + "1" * 4900, "still " + "0" * 4900, "join " + "0 " * 2400, "put table " + "0" * 4900,
                    " " * 5000, "put table 0 " + "0," * 2400 + "0", "back" * 1200, "put table " + "0 " * 2400):
            self.assertEqual(self.hears(desk, bench, row), "refused BadRow")

    def test_tables_of_none_to_ten_posts(self):
        for p in PRIMES:
            source = dice(f"tables {p}")
            for many in range(11):
                desk, bench = Desk(p), Bench(p)
                gadget = any_gadget(source, p, many, "table")
                answer = self.hears(desk, bench, "put " + gadget_text(gadget))
                self.assertEqual(answer, " ".join(["posts", *map(str, range(len(gadget[1])))]))
                self.assertEqual(desk.bench.web(), (p, (gadget,), ()))

    def test_most(self):
        parameters = inspect.signature(Desk).parameters
        self.assertEqual(list(parameters), ["p", "most"])
        self.assertEqual((parameters["most"].default, parameters["most"].kind), (60, inspect.Parameter.KEYWORD_ONLY))
        with self.assertRaises(TypeError):
            Desk(5, 60)
        for most in (0, 1, 2, 60):
            desk, bench = Desk(5, most=most), Bench(5, most=most)
            for _ in range(most + 2):
                row = "put table -" if len(bench) < 5 else "put spring 1" if len(bench) == 5 else "hold 0 0"
                self.hears(desk, bench, row)
            self.assertEqual(self.hears(desk, bench, "still 99"), "refused TooMany")
            self.assertEqual(self.hears(desk, bench, "still"), "refused BadRow")
            self.assertEqual(self.hears(desk, bench, "read 99"), "refused BadPost")
            self.assertEqual(self.hears(desk, bench, "back"), "done" if most else "refused NoBack")

    def test_p(self):
        for p in odd_things() + [0, 1, 4, 6, 9, -2, 2 + 2 ** 64, "5", [5], knot(5, 2), Bench(5), endless(list, 1000)]:
            if type(p) is int and p in PRIMES:
                continue
            with self.assertRaises(PostError) as caught:
                Desk(p)
            self.assertIs(type(caught.exception), BadThing)
            self.assertEqual(caught.exception.place, ("p",))

    def test_two_desks_go_their_own_ways(self):
        for p in PRIMES:
            source = dice(f"two desks {p}")
            one, other = (Desk(p), Bench(p)), (Desk(p), Bench(p))
            for _ in range(40):
                for desk, bench in (one, other):
                    self.hears(desk, bench, any_row(source, bench))
            self.assertNotEqual(one[0].heard(), other[0].heard())

    def test_said_again_to_a_new_desk(self):
        for p in PRIMES:
            source = dice(f"again {p}")
            desk, bench = Desk(p, most=30), Bench(p, most=30)
            for _ in range(50):
                row = any_row(source, bench)
                self.hears(desk, bench, bent(source, row) if source.randrange(6) == 0 else row)
            again = Desk(p, most=30)
            self.assertEqual([(row, again.say(row)) for row, answer in desk.heard()], list(desk.heard()))
            self.assertEqual(again.bench, desk.bench)
            self.assertEqual(again.heard(), desk.heard())

    def test_heard_is_not_the_desks_own(self):
        desk = Desk(5)
        first = desk.heard()
        desk.say("left")
        self.assertEqual((first, desk.heard()), ((), (("left", "left"),)))

    def test_deeds_of_the_bench_itself(self):
        desk = Desk(5)
        desk.bench.put(("knot", 2))
        self.assertEqual(desk.say("left"), "left 0 1")
        self.assertEqual(desk.say("back"), "done")
        self.assertEqual(desk.heard(), (("left", "left 0 1"), ("back", "done")))


if __name__ == "__main__":
    unittest.main()
