"""Desks: a text that is edited, with a book that keeps what an edit does not touch."""

from pilerecall.books import Book
from pilerecall.checks import is_between, is_text
from pilerecall.entries import moved_entry
from pilerecall.errors import BadSplice, NothingToUndo


def spliced_text(text, place, removed, letters):
    """The text with letters in the place of those removed. Places of letters count from 1."""
    return text[:place - 1] + letters + text[place - 1 + removed:]


def is_splice(machine, text, place, removed, letters):
    """Whether values, which may be any, are a splice of the text."""
    size = len(text)
    if not is_between(place, 1, size + 1) or not is_between(removed, 0, size + 1 - place):
        return False
    return is_text(machine.letters, letters) and is_text(machine.letters, spliced_text(text, place, removed, letters))


def untouched(book, place, removed, by):
    """The entries, with their surfaces, that a splice leaves right, at their new places.

    What lies behind the letters removed moves by a number of places.
    """
    left = []
    for surface in book:
        entry = book.kept(surface)
        if entry[4] < place:
            left.append((surface, entry))
        elif entry[3] >= place + removed:
            left.append(((surface[0], surface[1] + by, surface[2]), moved_entry(entry, by)))
    return left


class Desk:
    """A text that is edited, and a book of the text."""

    def __init__(self, machine, text):
        self.book = Book(machine, text)
        self.machine = machine
        self.text = text
        self.splices = 0
        # The text and the book before each splice that can be undone.
        self.past = []

    def answer(self):
        """What the run from the start surface says: yes, no or endless."""
        return self.book.answer()

    def splice(self, place, removed, letters):
        """Puts letters in the place of those removed; returns how many entries are kept."""
        if not is_splice(self.machine, self.text, place, removed, letters):
            raise BadSplice(place, removed, letters)
        text = spliced_text(self.text, place, removed, letters)
        book = Book(self.machine, text)
        book.refill(untouched(self.book, place, removed, len(letters) - removed))
        self.past.append((self.text, self.book))
        self.text = text
        self.book = book
        self.splices += 1
        return len(book)

    def undo(self):
        """Takes back the last splice."""
        if self.splices == 0:
            raise NothingToUndo()
        self.text, self.book = self.past.pop()
        self.splices -= 1


class Trial:
    """A block at whose end a desk is again what it was when the block was entered."""

    def __init__(self, desk):
        self.desk = desk
        self.text = None
        self.book = None
        self.splices = None
        self.past = None

    def __enter__(self):
        desk = self.desk
        self.text = desk.text
        self.book = desk.book
        self.splices = desk.splices
        # A copy, for earlier splices may be undone within the block.
        self.past = list(desk.past)
        return desk

    def __exit__(self, *told):
        desk = self.desk
        desk.text = self.text
        desk.book = self.book
        desk.splices = self.splices
        desk.past = self.past
