"""Texts: gadgets and webs written out, and webs read of texts."""

from fairposts.errors import BadText
from fairposts.gadgets import is_gadget
from fairposts.rounds import is_prime
from fairposts.webs import web_fault

FIGURES = "0123456789"
LONGEST = 6


def spoken(word, numbers):
    """Return a word followed by numbers, one blank between two."""
    return " ".join([word, *[str(number) for number in numbers]])


def commas(numbers):
    """Return numbers with a comma between two."""
    return ",".join([str(number) for number in numbers])


def gadget_text(gadget):
    """Return the text of a gadget."""
    if gadget[0] != "table":
        return spoken(gadget[0], gadget[1:])
    word, hold, table = gadget
    signs = "".join([str(side) for side in hold])
    return spoken(word, [signs if signs else "-", *[commas(row) for row in table]])


def web_text(web):
    """Return the text of a web, each row ended by a line feed."""
    p, gadgets, ties = web
    rows = [f"round {p}", *[gadget_text(gadget) for gadget in gadgets], *[spoken(tie[0], tie[1:]) for tie in ties]]
    return "".join([row + "\n" for row in rows])


def number_of(word):
    """Return the number that word has the figures of, None where it is none."""
    # A longer word is no number; Python would not even read one of thousands of figures.
    if not 1 <= len(word) <= LONGEST or not all([sign in FIGURES for sign in word]):
        return None
    return None if word[0] == "0" and len(word) > 1 else int(word)


def numbers_of(words):
    """Return a tuple of the numbers of words, None for each word that is none."""
    return tuple(number_of(word) for word in words)


def gadget_of(p, text):
    """Return the gadget round p that text tells, None where it tells none."""
    word, *rest = text.split(" ")
    found = (word, *numbers_of(rest))
    if word == "table" and rest and rest[0]:
        hold = () if rest[0] == "-" else numbers_of(rest[0])
        found = (word, hold, tuple(numbers_of(row.split(",")) for row in rest[1:]))
    return found if is_gadget(p, found) else None


def begun(row):
    """Return the web without gadgets that a text's first row begins, None where it begins none."""
    word, *rest = row.split(" ")
    numbers = numbers_of(rest)
    if word != "round" or len(numbers) != 1 or not is_prime(numbers[0]):
        return None
    return (numbers[0], (), ())


def with_row(web, row):
    """Return web with what one more row of a text tells, None where no web's text has that row there."""
    p, gadgets, ties = web
    gadget = gadget_of(p, row)
    word, *rest = row.split(" ")
    if gadget is None:
        found = (p, gadgets, (*ties, (word, *numbers_of(rest))))
    elif ties:
        return None
    else:
        found = (p, (*gadgets, gadget), ties)
    # Ties may follow: so it is too early to count the posts left.
    fault = web_fault(found)
    return found if fault is None or fault == ("left",) else None


def read_web(text):
    """Return the web that text (anything) is the text of; refuse with BadText."""
    if not isinstance(text, str):
        raise BadText(None)
    # Behind the last line feed nothing may stand.
    *rows, last = text.split("\n")
    web = None
    for number, row in enumerate(rows):
        web = begun(row) if number == 0 else with_row(web, row)
        if web is None:
            raise BadText(number)
    if last or web_fault(web) is not None:
        raise BadText(len(rows))
    return web
