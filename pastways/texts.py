"""Changes, and rows of them, written as texts and read."""

from pastways.changes import MOST_KEPT, is_change
from pastways.errors import NoText

MARKS = {"keep": "=", "put": "+", "drop": "-"}
WORDS = {"=": "keep", "+": "put", "-": "drop"}


def change_text(change):
    """The writing of the change."""
    return "/".join([MARKS[word] + str(what) for word, what in change])


def rows_text(rows):
    """The writing of a list of changes, a line for each."""
    return "".join([change_text(change) + "\n" for change in rows])


def read_change(text):
    """The change of which the text is the writing; NoText."""
    # The writing of no parts has no piece, but split tells one.
    if text == "":
        return ()
    change = tuple([read_part(piece) for piece in text.split("/")])
    if not is_change(change):
        raise NoText("the text is the writing of too much, or of signs that no change has")
    return change


def read_rows(text):
    """The list of changes of which the text is the writing; NoText."""
    return [read_change(line) for line in lines_of(text)]


def read_part(text):
    """The part that the text says, of whatever signs; NoText."""
    if text[:1] not in WORDS:
        raise NoText("a part begins with none of the three marks")
    word = WORDS[text[:1]]
    if word == "keep":
        return (word, read_number(text[1:]))
    return (word, text[1:])


def read_number(text):
    """The number of kept signs of which the text is the writing; NoText."""
    # Held against the writings, as int takes others, too, with a 0 or a blank ahead.
    if text not in [str(many) for many in range(1, MOST_KEPT + 1)]:
        raise NoText("the text is not the writing of a number of kept signs")
    return int(text)


def lines_of(text):
    """A list of the lines of the text, without the line feed that ends each; NoText."""
    lines = text.split("\n")
    if lines.pop() != "":
        raise NoText("no line feed ends the last line")
    return lines
