"""Owned changes written as texts and read."""

from pastways.errors import NoText
from pastways.texts import change_text, lines_of, read_change

LETTERS = "abcdefghijklmnopqrstuvwxyz"
MOST_LETTERS = 6
BETWEEN = ": "


def owned_text(rows):
    """The writing of owned changes, a line for each."""
    return "".join([own + BETWEEN + change_text(change) + "\n" for own, change in rows])


def read_owned(text):
    """The owned changes of which the text is the writing; NoText."""
    return [read_line(line) for line in lines_of(text)]


def read_line(line):
    """The tuple (own, change) of which the line is the writing; NoText."""
    pieces = line.partition(BETWEEN)
    if pieces[1] == "" or not is_name(pieces[0]):
        raise NoText("the line does not begin with the name of a hand")
    return (pieces[0], read_change(pieces[2]))


def is_name(text):
    """Whether the text is the name of a hand."""
    return 1 <= len(text) <= MOST_LETTERS and all([sign in LETTERS for sign in text])
