"""A middle and hands that change one text at the same time."""

from pastways.doing import done, then
from pastways.errors import NoNumber
from pastways.passing import past


class Middle:
    """The one row of changes that all hands come to."""

    def __init__(self, text):
        self.now = text
        self.rows = []

    def take(self, own, known, change):
        """Do a change made where so many were done, led past all since; its number; NoNumber, NoFit, Clash."""
        led = change
        for since in self.behind(known):
            led = past(led, since[1], False)
        # A change that never fitted where it was made is refused at the latest here.
        self.now = done(led, self.now)
        self.rows.append((own, led))
        return len(self.rows) - 1

    def text(self):
        """The text behind all that was done."""
        return self.now

    def many(self):
        """How many changes were done."""
        return len(self.rows)

    def behind(self, known):
        """A list of tuples (own, change), as they were done, from this number on; NoNumber."""
        if known < 0 or known > len(self.rows):
            raise NoNumber("not so many changes were done")
        return self.rows[known:]


class Hand:
    """One that changes the text at once, and hears of the others through the middle."""

    def __init__(self, own, text):
        self.own = own
        self.now = text
        self.took = 0
        # What is on the way, and what is late behind it; None and not an empty change, which can be either.
        self.sent = None
        self.late = None

    def do(self, change):
        """Do the change here; it is late, behind what is late already; NoFit."""
        self.now = done(change, self.now)
        self.late = change if self.late is None else then(self.late, change)

    def send(self):
        """A tuple of how many of the middle's changes it took, and of what is on the way from now on; or None."""
        if self.sent is not None or self.late is None:
            return None
        self.sent = self.late
        self.late = None
        return (self.took, self.sent)

    def take(self, own, change):
        """Take the next change of the middle."""
        if own == self.own:
            self.sent = None
        else:
            self.take_other(change)
        self.took = self.took + 1

    def take_other(self, change):
        """Do the change of another one here, led past what the middle did not have yet, and lead that past it."""
        on_way = crossed(change, self.sent)
        waiting = crossed(on_way[0], self.late)
        self.now = done(waiting[0], self.now)
        self.sent = on_way[1]
        self.late = waiting[1]

    def text(self):
        """The text as it is here."""
        return self.now

    def is_still(self):
        """Whether nothing is on the way, or late."""
        return self.sent is None and self.late is None


def crossed(change, held):
    """A tuple of two: the change, whose signs are ahead, led past what is held, if any is, and this past it."""
    if held is None:
        return (change, None)
    return (past(change, held, True), past(held, change, False))


def meet(middle, hand):
    """The hand sends, the middle takes it, the hand takes all that it has not; how many these are."""
    told = hand.send()
    if told is not None:
        middle.take(hand.own, told[0], told[1])
    rows = middle.behind(hand.took)
    for own, change in rows:
        hand.take(own, change)
    return len(rows)
