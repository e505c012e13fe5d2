"""Desks: benches that are spoken to by rows of text."""

from fairposts.benches import DEEDS, Bench
from fairposts.errors import PostError
from fairposts.texts import commas, gadget_of, number_of, spoken

# How many numbers may follow each word; a gadget follows put.
FORMS = {
    "join": (2,), "still": (1,), "free": (1,), "exchange": (1, 2), "hold": (2,), "back": (0,), "read": (1,),
    "stand": (0,), "sides": (0,), "left": (0,),
}


def request_of(p, row):
    """Return (word, what follows it) of a row said to a desk round p, None where it is of no form."""
    word, blank, rest = row.partition(" ")
    if word == "put":
        gadget = gadget_of(p, rest)
        return None if gadget is None else (word, [gadget])
    told = [number_of(other) for other in rest.split(" ")] if blank else []
    return None if None in told or len(told) not in FORMS.get(word, ()) else (word, told)


def answer_of(bench, word, told):
    """Do as a row asks, and return the answer; the bench may refuse."""
    if word == "put":
        return spoken("posts", bench.put(told[0]))
    if word == "join":
        return spoken("mended", bench.join(told[0], told[1]))
    if word == "still":
        return spoken("mended", bench.still(told[0]))
    if word == "free":
        return spoken("mended", bench.free(told[0]))
    if word == "read":
        return str(bench.read(told[0]))
    if word == "stand":
        return spoken("stand", [commas(pair) for pair in bench.stand()])
    if word == "sides":
        return spoken("sides", bench.sides())
    if word == "left":
        return spoken("left", bench.posts())
    if word == "exchange":
        bench.exchange(*told)
    elif word == "hold":
        bench.hold(told[0], told[1])
    else:
        bench.back()
    return "done"


class Desk:
    """A desk round p with a bench, of which at most so many deeds can be taken back."""

    def __init__(self, p, *, most=DEEDS):
        self.bench = Bench(p, most=most)
        self.spoken_rows = []

    def answered(self, row):
        """Return the answer to a row, a text."""
        request = request_of(self.bench.web()[0], row)
        if request is None:
            return "refused BadRow"
        word, told = request
        try:
            return answer_of(self.bench, word, told)
        except PostError:
            # To read is no deed, so the log doesn't tell of it; it is refused for its post alone.
            return "refused BadPost" if word == "read" else f"refused {self.bench.log()[-1][1]}"

    def say(self, row):
        """Say a row (anything); return the answer."""
        if not isinstance(row, str):
            return "refused BadRow"
        answer = self.answered(row)
        self.spoken_rows.append((row, answer))
        return answer

    def heard(self):
        """Return a tuple of (row, answer) for each row said so far that is a text."""
        return tuple(self.spoken_rows)
