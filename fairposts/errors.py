"""What is refused, a class for each kind of refusal.

The messages do not show the fields: a field may hold anything that a caller
handed in, and writing that out may take for ever.
"""


class PostError(ValueError):
    """What all refusals of this package are."""


class BadThing(PostError):
    """No thing, curtain, bench or desk can be made of this; place tells where it fails."""

    def __init__(self, place):
        PostError.__init__(self, "nothing can be made of this")
        self.place = place


class BadGadget(PostError):
    """What was put is no gadget."""

    def __init__(self):
        PostError.__init__(self, "this is no gadget")


class BadPost(PostError):
    """post is none of the posts that can be taken."""

    def __init__(self, post):
        PostError.__init__(self, "this post cannot be taken")
        self.post = post


class BadNumber(PostError):
    """number is no number round the prime."""

    def __init__(self, number):
        PostError.__init__(self, "this is no number round the prime")
        self.number = number


class BadText(PostError):
    """A text is no web's; row is the number of the first row that is wrong."""

    def __init__(self, row):
        PostError.__init__(self, "this is not the text of a web")
        self.row = row


class NotFair(PostError):
    """A told row does not meet the kept row of this number with 0."""

    def __init__(self, number):
        PostError.__init__(self, "this row does not meet a kept one with 0")
        self.number = number


class NotApart(PostError):
    """A thing does not fall apart at the posts told."""

    def __init__(self):
        PostError.__init__(self, "the thing does not fall apart there")


class Still(PostError):
    """A hold does not stand; hand is a still hand of it."""

    def __init__(self, hand):
        PostError.__init__(self, "the hold does not stand")
        self.hand = hand


class TooMany(PostError):
    """bound would be passed."""

    def __init__(self, bound):
        PostError.__init__(self, "a bound would be passed")
        self.bound = bound


class NoBack(PostError):
    """There is no deed to be taken back."""

    def __init__(self):
        PostError.__init__(self, "there is no deed to be taken back")
