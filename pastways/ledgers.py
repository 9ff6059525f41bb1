"""Ledgers of owned changes, which go back and forth."""

from pastways.doing import done
from pastways.errors import NoNumber, NoPlace
from pastways.owners import owners
from pastways.squeezing import squeezed


class Ledger:
    """A text, the owned changes that were done to it, and the steps that led there."""

    def __init__(self, text):
        self.first = text
        # Of each step which it was, a tuple of the owned changes behind it, and the text; the last one last.
        self.steps = []
        self.later = []

    def write(self, own, change):
        """Do the change, behind all; the text then; NoFit."""
        now = done(change, self.text())
        self.step("write", self.entries() + [(own, change)], now)
        return now

    def fold(self):
        """Squeeze the owned changes; by how many they are fewer."""
        rows = self.entries()
        fewer = squeezed(rows)
        self.step("fold", fewer, self.text())
        return len(rows) - len(fewer)

    def step(self, word, rows, now):
        """Keep what a step came to; what was taken back can't be done again behind it."""
        self.steps.append((word, tuple(rows), now))
        self.later = []

    def text(self):
        """The text now."""
        return self.steps[-1][2] if self.steps else self.first

    def entries(self):
        """A list of all owned changes, as they were handed in, or squeezed."""
        return list(self.steps[-1][1]) if self.steps else []

    def owner_at(self, place):
        """The owner of the sign behind this place, None of one from the first; NoPlace."""
        if place < 0 or place >= len(self.text()):
            raise NoPlace("no sign stands behind this place")
        return owners(self.first, self.entries())[place]

    def back(self):
        """Take back the last step; which it was; NoNumber."""
        if not self.steps:
            raise NoNumber("there is nothing to be taken back")
        self.later.append(self.steps.pop())
        return self.later[-1][0]

    def forth(self):
        """Do again the step that was taken back last; which it was; NoNumber."""
        if not self.later:
            raise NoNumber("there is nothing to be done again")
        self.steps.append(self.later.pop())
        return self.steps[-1][0]

    def counts(self):
        """A tuple of how many steps can be taken back, and how many done again."""
        return (len(self.steps), len(self.later))

    def twin(self):
        """A ledger that is as this one, and goes by itself from then on."""
        other = Ledger(self.first)
        other.steps = list(self.steps)
        other.later = list(self.later)
        return other
