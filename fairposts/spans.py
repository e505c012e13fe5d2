"""Lots: all sums of multiples of some rows, and their mirrors.

Here a row is reckoned with as its FLAT, the list of its numbers by their
places, as clearing a place is then the same for a push and for an answer.
"""

from fairposts.rounds import inverse, is_round
from fairposts.rows import added, is_row, meet, nought, times


def flat_of(row):
    """Return the numbers of row by their places."""
    return [number for pair in row for number in pair]


def row_of(flat):
    """Return the row that has flat's numbers at its places."""
    return tuple((flat[place], flat[place + 1]) for place in range(0, len(flat), 2))


def first_place(flat):
    """Return the first place of flat that is not 0, None where all are."""
    for place, number in enumerate(flat):
        if number != 0:
            return place
    return None


def lessened(p, flat, number, other):
    """Return flat less number times other."""
    if number == 0:
        return flat
    return [(mine - number * its) % p for mine, its in zip(flat, other)]


def cleared(p, flat, leads):
    """Return flat less what makes it 0 at the first place of each of leads."""
    # The leads have 0 at one another's first places, so the order is free.
    for place in leads:
        flat = lessened(p, flat, flat[place], leads[place])
    return flat


def leads_of(p, flats):
    """Return the plain flats that span what flats span: a dict by first places, rising."""
    leads = {}
    for flat in flats:
        rest = cleared(p, flat, leads)
        first = first_place(rest)
        if first is not None:
            scale = inverse(p, rest[first])
            lead = [scale * number % p for number in rest]
            for place in list(leads):
                leads[place] = lessened(p, leads[place], leads[place][first], lead)
            leads[first] = lead
    return {place: leads[place] for place in sorted(leads)}


def row_leads(p, rows):
    """Return the leads of the lot that rows span."""
    return leads_of(p, [flat_of(row) for row in rows])


def plain(p, posts, rows):
    """Return a new list of the plain rows of the lot that rows span."""
    leads = row_leads(p, rows)
    return [row_of(leads[place]) for place in leads]


def crossed(p, row):
    """Return the row whose numbers, times another row's by places, make the meet with it."""
    return tuple((-answer % p, push) for push, answer in row)


def mirror(p, posts, rows):
    """Return a new list of the plain rows of the mirror of the lot that rows span."""
    # A row of the mirror is free at the places where no lead begins; each lead
    # then says what stands at its own first place.
    leads = row_leads(p, [crossed(p, row) for row in rows])
    found = []
    for free in range(2 * posts):
        if free not in leads:
            flat = [0] * (2 * posts)
            flat[free] = 1
            for place in leads:
                flat[place] = -leads[place][free] % p
            found.append(row_of(flat))
    return plain(p, posts, found)


def is_in(p, posts, rows, row):
    """Tell whether row is in the lot that rows span."""
    return first_place(cleared(p, flat_of(row), row_leads(p, rows))) is None


def shares(p, rows, row):
    """Return a tuple of numbers by which rows make row together, None where there are none."""
    # Place by place the unknown numbers, times the rows' numbers there, make
    # row's: where a lead begins behind them all, it asks of 0 that it be 1.
    flats = [flat_of(other) for other in [*rows, row]]
    leads = leads_of(p, list(zip(*flats)))
    if len(rows) in leads:
        return None
    numbers = [0] * len(rows)
    for place in leads:
        numbers[place] = leads[place][-1]
    return tuple(numbers)


def in_paper(p, posts, rows, row):
    """Return a paper that row is in the lot that rows span, or that it is not."""
    numbers = shares(p, rows, row)
    if numbers is not None:
        return ("sum", numbers)
    # The mirror of the mirror is the lot, so some row of the mirror bars row.
    bars = [bar for bar in mirror(p, posts, rows) if meet(p, bar, row) != 0]
    return ("bar", bars[0])


def together(p, posts, numbers, rows):
    """Return the sum of rows, each multiplied by its number."""
    total = nought(posts)
    for number, row in zip(numbers, rows):
        total = added(p, total, times(p, number, row))
    return total


def are_numbers(p, many, thing):
    """Tell whether thing (anything) is a tuple of so many numbers round p."""
    return isinstance(thing, tuple) and len(thing) == many and all([is_round(p, number) for number in thing])


def is_bar(p, posts, rows, row, thing):
    """Tell whether thing (anything) is a row that meets all of rows with 0, but row not."""
    if not is_row(p, posts, thing):
        return False
    return all([meet(p, other, thing) == 0 for other in rows]) and meet(p, row, thing) != 0


def in_holds(p, posts, rows, row, thing):
    """Tell whether thing (anything) is a paper of being in of rows and row."""
    if not isinstance(thing, tuple) or len(thing) != 2:
        return False
    word, shown = thing
    if word == "sum":
        return are_numbers(p, len(rows), shown) and together(p, posts, shown, rows) == row
    return word == "bar" and is_bar(p, posts, rows, row, shown)
