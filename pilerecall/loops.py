"""Lasting standings, and the round of a run that never ends."""

from pilerecall.courses import Course, course_rows
from pilerecall.entries import ENDLESS
from pilerecall.surfaces import START_SURFACE


def lasting(book, surface=START_SURFACE):
    """The lasting standings of the run from a surface, as (surface, steps, height)."""
    entry = book.known(surface)
    rows = course_rows(book, tuple(surface))
    if entry[0] == ENDLESS:
        rows.pop()
    return tuple([row[:3] for row in rows])


def loop(book):
    """The round of an endless run as (before, period, surface, base, growth), or None."""
    course = Course(book)
    if course.turn is None:
        return None
    base = course.beneath(course.turn)
    growth = course.beneath(len(course.rows) - 1)[len(base):]
    return (course.before, course.period, course.rows[-1][0], base, growth)
