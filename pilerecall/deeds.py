"""Deeds: what is to be done with a desk, given as data."""

from pilerecall.checks import is_sequence, is_worded
from pilerecall.desks import Trial
from pilerecall.errors import BadDeed

MOST_TRIALS = 10
SIZES = {"splice": 4, "answer": 1, "work": 1, "undo": 1, "try": 2}


def is_deed(value, trials):
    """Whether a value is a deed that is at most so many trials deep."""
    if not is_worded(value) or len(value) != SIZES.get(value[0]):
        return False
    if value[0] != "try":
        return True
    return trials > 0 and is_sequence(value[1]) and first_wrong(value[1], trials - 1) is None


def first_wrong(values, trials):
    """The index of the first value that is no deed at most so many trials deep, or None."""
    for index in range(len(values)):
        if not is_deed(values[index], trials):
            return index
    return None


def check_deeds(deeds):
    """Raises BadDeed for the first item that is no deed."""
    index = first_wrong(deeds, MOST_TRIALS)
    if index is not None:
        raise BadDeed(index)


def done(desk, deed):
    """Does a deed and returns its result."""
    word = deed[0]
    if word == "splice":
        return desk.splice(deed[1], deed[2], deed[3])
    if word == "answer":
        return desk.answer()
    if word == "work":
        return (len(desk.book.worked), len(desk.book.recalled))
    if word == "undo":
        return desk.undo()
    with Trial(desk) as same:
        return all_done(same, deed[1])


def all_done(desk, deeds):
    """Does deeds in order and returns their results."""
    return tuple([done(desk, deed) for deed in deeds])


def perform(desk, deeds):
    """Looks at all deeds, does them in order, and returns their results."""
    check_deeds(deeds)
    return all_done(desk, deeds)


def within(trial, deeds):
    """Looks at all deeds, does them within a trial, and returns their results."""
    check_deeds(deeds)
    with trial as same:
        return all_done(same, deeds)
