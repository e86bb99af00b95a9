"""Prints: the letters that a run prints, by their numbers."""

from pilerecall.courses import Course, walk
from pilerecall.errors import TooLong
from pilerecall.spelling_out import spelled_run

MOST_SAID = 10000


def letters_said(book):
    """How many letters the run prints in all, or None if it prints without end."""
    course = Course(book)
    return None if course.letters_round else course.letters


def letters_before(book, steps):
    """How many letters the run prints in its first steps."""
    course = Course(book)
    if course.turn is None:
        return walk(book, min(steps, course.steps))[2]
    rounds, rest = course.folded(steps)
    letters = walk(book, rest)[2]
    return letters + rounds * course.letters_round


def letter_at(book, index):
    """The printed letter with this number, or None."""
    return spelled_run(book, Course(book), index, 1) or None


def said_between(book, first, last):
    """The printed letters with the numbers from first up to, not including, last."""
    if last - first > MOST_SAID:
        raise TooLong(last - first)
    return spelled_run(book, Course(book), first, max(0, last - first))
