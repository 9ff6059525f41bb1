"""Books, in which any change can be taken back."""

from pastways.doing import all_then, done, undone
from pastways.errors import NoNumber
from pastways.passing import past


class Book:
    """A text, and all changes that were done to it."""

    def __init__(self, text):
        # The text behind each number of changes, so one more than there are changes.
        self.texts = [text]
        self.rows = []
        self.gone = {}

    def do(self, change):
        """Do the change; its number; NoFit."""
        self.texts.append(done(change, self.text()))
        self.rows.append(change)
        return len(self.rows) - 1

    def take_back(self, number):
        """Do the change of this number undone, led past all later ones; the number of what is done; NoNumber."""
        if number < 0 or number >= len(self.rows) or number in self.gone:
            raise NoNumber("no change has this number, or it was taken back")
        change = undone(self.rows[number])
        for later in self.rows[number + 1:]:
            change = past(change, later, True)
        told = self.do(change)
        self.gone[number] = True
        return told

    def text(self):
        """The text behind all changes."""
        return self.texts[-1]

    def text_at(self, many):
        """The text behind so many changes; NoNumber."""
        if many < 0 or many > len(self.rows):
            raise NoNumber("there are not so many changes")
        return self.texts[many]

    def changes(self):
        """A list of all changes, as they were handed in, or as they take back."""
        return list(self.rows)

    def taken_back(self):
        """A rising list of the numbers of all changes that were taken back."""
        return sorted(self.gone)

    def whole(self):
        """All changes as one."""
        return all_then(len(self.texts[0]), self.rows)
