"""A desk: a Book that is kept behind lines of text."""

from packedseats.books import Book
from packedseats.commands import answered_by
from packedseats.notation import read_log


class Desk:
    """Keeps a Book of a width."""

    def __init__(self, width):
        self._book = Book(width)

    def execute(self, line):
        """Do what the line says to the Book, and return what it answers."""
        return answered_by(self._book, line)


def answered(width, text, line):
    """Return what a Desk answers to the line whose Book is read from the text of a log."""
    return answered_by(read_log(text, width), line)
