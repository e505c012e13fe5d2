"""Benches: what was put and tied, held by hands, with each deed to be taken back."""

from fairposts.errors import BadGadget, BadNumber, BadPost, NoBack, Still, TooMany
from fairposts.stances import (
    first_stance, read_at, stand_of, with_exchange, with_gadget, with_number, with_tie,
)
from fairposts.webs import left

DEEDS = 60


class Bench:
    """A bench round p, of which at most so many deeds can be taken back; BadThing where p is no prime."""

    def __init__(self, p, *, most=DEEDS):
        self.most = most
        self.now = first_stance(p)
        self.past = []
        self.story = []

    def asked(self, word, deed, *told):
        """Do a deed, keep how it stood ahead of it, and tell the log how it went."""
        try:
            if len(self.past) >= self.most:
                raise TooMany(self.most)
            found, answer = deed(self.now, *told)
        except TooMany:
            self.story.append((word, "TooMany"))
            raise
        except BadGadget:
            self.story.append((word, "BadGadget"))
            raise
        except BadPost:
            self.story.append((word, "BadPost"))
            raise
        except BadNumber:
            self.story.append((word, "BadNumber"))
            raise
        except Still:
            self.story.append((word, "Still"))
            raise
        self.past.append(self.now)
        self.now = found
        self.story.append((word, "done"))
        return answer

    def put(self, gadget):
        """Put a gadget (anything) on the bench; return its posts' numbers."""
        return self.asked("put", with_gadget, gadget)

    def join(self, one, other):
        """Join two posts (anything); return the posts at which mending exchanged."""
        return self.asked("join", with_tie, "join", (one, other))

    def still(self, post):
        """Still a post (anything); return the posts at which mending exchanged."""
        return self.asked("still", with_tie, "still", (post,))

    def free(self, post):
        """Free a post (anything); return the posts at which mending exchanged."""
        return self.asked("free", with_tie, "free", (post,))

    def exchange(self, one, other=None):
        """Exchange one post, or two (anything); the stand stays as it is."""
        return self.asked("exchange", with_exchange, (one,) if other is None else (one, other))

    def hold(self, post, number):
        """Hold a number (anything) at a post (anything)."""
        return self.asked("hold", with_number, post, number)

    def back(self):
        """Take the last deed back; refuse with NoBack where there is none."""
        if not self.past:
            self.story.append(("back", "NoBack"))
            raise NoBack()
        self.now = self.past.pop()
        self.story.append(("back", "done"))

    def read(self, post):
        """Return the stand's number on the side that is read at a post (anything)."""
        return read_at(self.now, post)

    def posts(self):
        """Return a tuple of the numbers of the posts left."""
        return left(self.now[0])

    def sides(self):
        """Return the hold."""
        return self.now[2]

    def numbers(self):
        """Return a tuple of the held numbers."""
        return self.now[3]

    def stand(self):
        """Return the stand read of the held numbers."""
        return stand_of(self.now)

    def web(self):
        """Return the web of what was put and tied."""
        return self.now[0]

    def log(self):
        """Return a tuple with (word, how) for each deed that was asked."""
        return tuple(self.story)

    def thing(self):
        """Return what the web lets be at the posts left."""
        return self.now[1]

    def twin(self):
        """Return another bench that stands alike and goes its own way."""
        other = Bench(self.now[0][0], most=self.most)
        other.now = self.now
        other.past = list(self.past)
        other.story = list(self.story)
        return other

    def __eq__(self, other):
        return isinstance(other, Bench) and self.now == other.now

    def __len__(self):
        return len(self.past)

    def __str__(self):
        return f"bench of {len(left(self.now[0]))} posts round {self.now[0][0]}"
