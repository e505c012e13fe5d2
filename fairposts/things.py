"""Things: lots of rows that are their own mirror."""

from fairposts.errors import BadThing
from fairposts.rounds import POSTS, is_prime
from fairposts.rows import is_row, meet
from fairposts.sides import first_hold, table_of
from fairposts.spans import plain


def posts_of(rows):
    """Return how many posts rows have, none of no rows."""
    return len(rows[0]) if rows else 0


def are_rows(p, thing):
    """Tell whether thing (anything) is a tuple of rows that a thing may be made of."""
    if not isinstance(thing, tuple) or len(thing) > 2 * POSTS:
        return False
    if not all([isinstance(row, tuple) for row in thing]):
        return False
    posts = posts_of(thing)
    return posts <= POSTS and all([is_row(p, posts, row) for row in thing])


def first_unfair(p, rows):
    """Return the numbers of the first two of rows that don't meet with 0, None where all do."""
    for k, row in enumerate(rows):
        for j in range(k + 1, len(rows)):
            if meet(p, row, rows[j]) != 0:
                return (k, j)
    return None


class Thing:
    """What posts let be: made of p and of rows that span it."""

    def __init__(self, p, rows):
        if not is_prime(p):
            raise BadThing(("p",))
        if not are_rows(p, rows):
            raise BadThing(("rows",))
        unfair = first_unfair(p, rows)
        if unfair is not None:
            raise BadThing(("fair", *unfair))
        posts = posts_of(rows)
        found = plain(p, posts, rows)
        if len(found) < posts:
            raise BadThing(("few", len(found)))
        self.prime = p
        # As many plain rows as posts, so their number tells the posts too.
        self.lot = tuple(found)

    def p(self):
        """Return the prime that its numbers are counted round."""
        return self.prime

    def posts(self):
        """Return how many posts it has."""
        return len(self.lot)

    def rows(self):
        """Return a tuple of its plain rows."""
        return self.lot

    def has(self, row):
        """Tell whether row is one of its stands."""
        # It is its own mirror: what meets all its rows with 0 is in it.
        return all([meet(self.prime, row, stand) == 0 for stand in self.lot])

    def told(self):
        """Return its told form (p, hold, table)."""
        hold = first_hold(self.prime, len(self.lot), self.lot)
        return (self.prime, hold, table_of(self.prime, hold, self.lot))

    def __eq__(self, other):
        return isinstance(other, Thing) and self.prime == other.prime and self.lot == other.lot

    def __len__(self):
        return len(self.lot)

    def __str__(self):
        return f"thing of {len(self.lot)} posts round {self.prime}"
