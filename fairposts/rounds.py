"""Numbers counted round a prime."""

PRIMES = (2, 3, 5, 7, 11, 13)
POSTS = 10


def is_whole(thing):
    """Tell whether thing (anything) is a whole number: True and False are none."""
    return isinstance(thing, int) and not isinstance(thing, bool)


def is_prime(thing):
    """Tell whether thing (anything) is one of PRIMES."""
    return is_whole(thing) and thing in PRIMES


def is_round(p, thing):
    """Tell whether thing (anything) is a number round p."""
    return is_whole(thing) and 0 <= thing < p


def inverse(p, number):
    """Return the number round p that makes 1 with number, which is not 0."""
    # Round a prime, p - 1 factors number make 1: so p - 2 of them are its inverse.
    worth = 1
    for step in range(p - 2):
        worth = worth * number % p
    return worth


def chosen(p, many, number):
    """Return the last many figures of number round p, as a tuple, the figure of 1 last."""
    figures = []
    for step in range(many):
        figures.append(number % p)
        number //= p
    return tuple(reversed(figures))
