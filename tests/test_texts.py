import re
import unittest

from fairposts import texts
from fairposts.benches import Bench
from fairposts.errors import BadText
from fairposts.gadgets import knot
from fairposts.webs import thing_of
from tests.helper import (
    PRIMES, Told, any_gadget, any_hold, any_table, dice, endless, kept_as_is, odd_things, spelled,
    web_fault_by_the_words, web_samples,
)

NUMBER = "(?:0|[1-9][0-9]{0,5})"
ROUND = re.compile(f"round ({NUMBER})")
GADGET = re.compile(f"(spring|lever|knot|ring) ({NUMBER})")
TABLE = re.compile(f"table (-|[01]+)((?: {NUMBER}(?:,{NUMBER})*)*)")
TIE = re.compile(f"(join|still|free)((?: {NUMBER})+)")


def gadget_by_the_words(row):
    """What a row tells that has the form of a gadget's text, None where it has none."""
    if found := GADGET.fullmatch(row):
        return (found[1], int(found[2]))
    if found := TABLE.fullmatch(row):
        hold = tuple(map(int, found[1].replace("-", "")))
        return ("table", hold, tuple(tuple(map(int, one.split(","))) for one in found[2].split()))
    return None


def begun_by_the_words(rows):
    """The web that the rows tell so far, perhaps with too many posts left, None where no web's text begins so."""
    first = ROUND.fullmatch(rows[0])
    if not first:
        return None
    gadgets, ties = [], []
    for row in rows[1:]:
        gadget, tie = gadget_by_the_words(row), TIE.fullmatch(row)
        if gadget and not ties:
            gadgets.append(gadget)
        elif tie:
            ties.append((tie[1], *map(int, tie[2].split())))
        else:
            return None
    web = (int(first[1]), tuple(gadgets), tuple(ties))
    return web if web_fault_by_the_words(web) in (None, ("left",)) else None


def read_by_the_words(text):
    """The web that a text tells, or the number of the row at which it is refused, as [44] has it."""
    *rows, last = text.split("\n")
    for number in range(len(rows)):
        if begun_by_the_words(rows[:number + 1]) is None:
            return number
    if last or not rows or web_fault_by_the_words(begun_by_the_words(rows)):
        return len(rows)
    return begun_by_the_words(rows)


def bent_row(source, row):
    """A row with something in it otherwise."""
    at = source.randrange(len(row) + 1)
    numbers = [found.span() for found in re.finditer("[0-9]+", row)]
    if numbers and source.randrange(3) == 0:
        begin, end = source.choice(numbers)
        number = row[begin:end]
        return row[:begin] + source.choice((
            "0" + number, "00" + number, "-" + number, "+" + number, number + "0", "1" * 7, "0" * 7, "7" * 4400, "",
            str(int(number[:9]) + 1), str(int(number[:9]) - 1), number + ".0", "1_0", "x", "20", "11")) + row[end:]
    return source.choice((
        row[:at] + source.choice(" ,-0123459azAZ~!\t") + row[at:], row[:at] + row[at + 1:], row[:at] + " " + row[at:],
        row[:at] + source.choice("019 ,-jx") + row[at + 1:], row.upper(), row.capitalize(), row + " ", " " + row,
        row.replace(" ", "  "), row.replace(" ", ""), row.replace(",", ", "), row.replace(" ", ","), row[:at], row[at:],
        row + row, row + " " + row, row + " 0", row.rsplit(" ", 1)[0], "", row.replace("-", ""), row + "\r"))


def bent(source, text):
    """A text bent at one place."""
    rows = text.split("\n")
    at, other = source.randrange(len(rows)), source.randrange(len(rows))
    choice = source.randrange(12)
    if choice == 0:
        return text[:-1]
    if choice == 1:
        return text + source.choice(("\n", "\n\n", "x", " ", "still 0", "round 5\n", "spring 0", "spring 1\n"))
    if choice == 2:
        del rows[at]
    elif choice == 3:
        rows.insert(at, rows[other])
    elif choice == 4:
        rows[at], rows[other] = rows[other], rows[at]
    elif choice == 5:
        rows.insert(at, source.choice(("spring 1", "knot 3", "ring 10", "lever 0", "table -", "table 0 1", "still 0",
                                       "free 1", "join 0 1", "join 1 0", "round 5", "round 7", "", "join 0", "table")))
    elif choice == 6:
        return text[:source.randrange(len(text) + 1)]
    else:
        rows[at] = bent_row(source, rows[at])
    return "\n".join(rows)


class Texts(Told):
    def is_read(self, text):
        """Read a text, and see that it comes to what the words say; tell that."""
        right = read_by_the_words(text)
        if isinstance(right, int):
            self.refuses(BadText, "row", right, texts.read_web, text)
        else:
            self.assertEqual(spelled(kept_as_is(self, texts.read_web, text)), spelled(right))
        return right


class Written(Texts):
    def test_told_ones(self):
        for gadget, text in ((("spring", 3), "spring 3"), (("lever", 2), "lever 2"), (("knot", 3), "knot 3"),
                             (("ring", 10), "ring 10"), (("table", (), ()), "table -"),
                             (("table", (0, 1, 0), ((1, 2, 0), (2, 0, 1), (0, 1, 4))), "table 010 1,2,0 2,0,1 0,1,4"),
                             (("table", (1,), ((12,),)), "table 1 12")):
            self.assertEqual(kept_as_is(self, texts.gadget_text, gadget), text)
        web = (5, (("spring", 3), ("lever", 2), ("table", (), ())), (("join", 0, 2), ("still", 1)))
        self.assertEqual(kept_as_is(self, texts.web_text, web),
                         "round 5\nspring 3\nlever 2\ntable -\njoin 0 2\nstill 1\n")
        self.assertEqual(texts.web_text((13, (), ())), "round 13\n")
        self.assertEqual(texts.web_text((2, (("knot", 2),), (("free", 1), ("still", 0)))),
                         "round 2\nknot 2\nfree 1\nstill 0\n")

    def test_there_and_back(self):
        words, most = set(), 0
        for source, web in web_samples("there and back", 6):
            text = kept_as_is(self, texts.web_text, web)
            self.assertIs(type(text), str)
            self.assertEqual(spelled(kept_as_is(self, texts.read_web, text)), spelled(web))
            self.assertEqual(self.is_read(text), web)
            self.assertEqual(text.count("\n"), 1 + len(web[1]) + len(web[2]))
            self.assertEqual(thing_of(texts.read_web(text)), thing_of(web))
            words |= {gadget[0] for gadget in web[1]}
            most = max(most, len(web[1]))
        self.assertEqual((words, most), ({"spring", "lever", "knot", "ring", "table"}, 12))

    def test_all_gadgets(self):
        for p in PRIMES:
            source = dice(f"gadget texts {p}")
            for gadget in [*[(word, k) for word in ("spring", "lever") for k in range(p)],
                           *[(word, many) for word in ("knot", "ring") for many in range(2, 11)],
                           *[("table", any_hold(source, many), any_table(source, p, many)) for many in range(11)]]:
                text = texts.gadget_text(gadget)
                self.assertEqual(gadget_by_the_words(text), gadget)
                self.assertEqual(texts.read_web(f"round {p}\n{text}\n"), (p, (gadget,), ()))


class Read(Texts):
    def test_told_ones(self):
        for text, row in (("", 0), ("\n", 0), ("round 5", 0), ("round 5\n\n", 1), ("round 4\n", 0), ("round 05\n", 0),
                          ("round 5 \n", 0), ("Round 5\n", 0), ("round\n", 0), ("round \n", 0), ("round 5 5\n", 0),
                          ("round 5\nspring 5\n", 1), ("round 5\nspring 1\nstill 0\nspring 1\n", 3),
                          ("round 5\nspring 1", 1), ("round 5\nspring 1\nstill 0", 2), ("round 5\nstill 0\n", 1),
                          ("round 5\nspring 1\nstill 00\n", 2), ("round 5\nknot 10\nring 10\n", 3),
                          ("round 5\nknot 10\nring 10\nspring 1\n", 3), ("round 5\nknot 2\njoin 1 0\n", 2),
                          ("round 5\nknot 2\njoin 0 1\nfree 1\n", 3), ("round 5\nknot 10\nring 10\nx", 3),
                          ("spring 1\nround 5\n", 0), ("round 5\ntable \n", 1), ("round 5\ntable\n", 1),
                          ("round 5\ntable - 0\n", 1), ("round 5\ntable 0\n", 1),
                          ("round 5\ntable 00 0,0 0,0 0,0\n", 1), ("round 5\ntable 01 0,1 2,0\n", 1),
                          ("round 5\ntable 01 0,1 1,0,\n", 1),
                          ("round 5\nspring 0000001\n", 1), ("round 5\nspring 1\nstill 0000000\n", 2)):
            self.refuses(BadText, "row", row, texts.read_web, text)
            self.assertEqual(read_by_the_words(text), row, text)
        for text, web in (("round 5\n", (5, (), ())), ("round 2\ntable -\n", (2, (("table", (), ()),), ())),
                          ("round 5\nspring 4\nstill 0\n", (5, (("spring", 4),), (("still", 0),)))):
            self.assertEqual(texts.read_web(text), web)

    def test_bent_at_one_place_or_two(self):
        rows, webs = {}, 0
        for source, web in web_samples("bent", 2):
            text = texts.web_text(web)
            for _ in range(40):
                one = bent(source, text)
                right = self.is_read(one)
                if isinstance(right, int):
                    rows[right] = rows.get(right, 0) + 1
                else:
                    webs += 1
                self.is_read(bent(source, one))
        self.assertGreater(len(rows), 15)
        self.assertGreater(webs, 100)

    def test_each_row_bent(self):
        for source, web in web_samples("each row", 1):
            rows = texts.web_text(web).split("\n")
            for at in range(len(rows)):
                for _ in range(6):
                    self.is_read("\n".join([*rows[:at], bent_row(source, rows[at]), *rows[at + 1:]]))

    def test_rows_less_twice_and_exchanged(self):
        for source, web in web_samples("rows", 1):
            rows = texts.web_text(web).split("\n")
            for at in range(len(rows)):
                self.is_read("\n".join(rows[:at] + rows[at + 1:]))
                self.is_read("\n".join(rows[:at] + rows[at:at + 1] + rows[at:]))
                other = source.randrange(len(rows))
                changed = list(rows)
                changed[at], changed[other] = changed[other], changed[at]
                self.is_read("\n".join(changed))
                self.is_read("\n".join(rows[:at + 1]))
                self.is_read("\n".join(rows[:at]) + "\n")

    def test_a_thirteenth_gadget_and_a_twenty_first_post(self):
        for p in PRIMES:
            springs = f"round {p}\n" + "spring 1\n" * 12
            stills = "".join(f"still {post}\n" for post in range(12))
            self.assertEqual(self.is_read(springs + stills)[1], (("spring", 1),) * 12)
            self.assertEqual(self.is_read(springs + "spring 1\n" + stills), 13)
            self.assertEqual(self.is_read(springs + "table -\n" + stills), 13)
            wide = f"round {p}\nknot 10\nring 9\n"
            self.assertEqual(self.is_read(wide + "spring 0\n" + stills)[2][11], ("still", 11))
            self.assertEqual(self.is_read(wide + "lever 0\n" + stills), 3)
            self.assertEqual(self.is_read(wide + "spring 0\nspring 0\n" + stills), 4)
            self.assertEqual(self.is_read(wide + "spring 0\ntable -\n" + stills)[1][-1], ("table", (), ()))

    def test_too_many_posts_left(self):
        for p in PRIMES:
            wide = f"round {p}\nknot 10\nspring 1\n"
            self.assertEqual(self.is_read(wide), 3)
            self.assertEqual(self.is_read(wide + "free 10\n")[2], (("free", 10),))
            self.assertEqual(self.is_read(wide + "free 10"), 3)
            self.assertEqual(self.is_read(wide + "free 11\n"), 3)
            self.assertEqual(self.is_read(wide + "ring 9\n" + "".join(f"still {k}\n" for k in range(9))), 13)
            self.assertEqual(len(self.is_read(wide + "ring 9\n" + "".join(f"still {k}\n" for k in range(10)))[2]), 10)

    def test_thousands_of_figures_rows_and_words(self):
        for text in ("round " + "5" * 4990, "round " + "5" * 4900 + "\n", "round 5\nspring " + "1" * 4900 + "\n",
                     "round 5\nspring 1\nstill " + "0" * 4900 + "\n", "\n" * 5000, " " * 5000,
                     "round 5\n" + "\n" * 4990, "round 5\n" + "spring 1\n" * 500,
                     "round 5\nknot 2\n" + "still 0\n" * 600, "round 5\ntable " + "0" * 4900 + "\n",
                     "round 5\ntable 0 " + "0," * 2400 + "0\n",
                     "round 5\ntable " + "0 " * 2400 + "\n", "table - " * 600,
                     "round 5\njoin " + "0 " * 2400 + "\n", "round 5\ntable -" + " -" * 2000 + "\n"):
            self.assertIsInstance(self.is_read(text), int)

    def test_what_is_no_text(self):
        for odd in odd_things() + [knot(5, 2), Bench(5), ["round 5\n"], ("round 5\n",), endless(tuple, 1000)]:
            if isinstance(odd, str):
                self.is_read(odd)
            elif type(odd) is tuple and len(odd) == 1000:
                with self.assertRaises(BadText) as caught:
                    texts.read_web(odd)
                self.assertIsNone(caught.exception.row)
            else:
                self.refuses(BadText, "row", None, texts.read_web, odd)

    def test_gadgets_with_something_otherwise(self):
        for p in PRIMES:
            source = dice(f"otherwise {p}")
            for _ in range(60):
                row = texts.gadget_text(any_gadget(source, p, source.choice((1, 2, 3, 10))))
                self.is_read(f"round {p}\n{bent_row(source, row)}\n")
                self.is_read(f"round {p}\n{bent_row(source, bent_row(source, row))}\n")


if __name__ == "__main__":
    unittest.main()
