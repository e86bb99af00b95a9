"""Far looks: the standing after any number of steps, and when the head comes to a place."""

from pilerecall.courses import Course, fallen_entry, walk
from pilerecall.errors import TooLong
from pilerecall.surfaces import START_SURFACE, back_to, led_to

MOST_UNFOLDED = 10000


def pieces_of(course, stack, rounds):
    """A stack in pieces, after so many whole rounds behind the first one."""
    if rounds == 0:
        pieces = [(stack, 1)]
    else:
        base = course.beneath(course.turn)
        growth = course.beneath(len(course.rows) - 1)[len(base):]
        pieces = [(base, 1), (growth, rounds), (stack[len(base):], 1)]
    return tuple([piece for piece in pieces if piece[0]])


def standing_at(book, steps):
    """The standing after so many steps as (state, place, pieces), or None."""
    course = Course(book)
    if course.turn is None and steps > course.steps:
        return None
    rounds, rest = course.folded(steps)
    surface, beneath, _ = walk(book, rest)
    state, place, top = surface
    stack = beneath + (top,) if top else beneath
    return (state, place, pieces_of(course, stack, rounds))


def height_of(pieces):
    """The number of symbols that pieces describe."""
    return sum([len(symbols) * times for symbols, times in pieces])


def unfold(pieces):
    """The symbols that pieces describe, from the bottom to the top."""
    height = height_of(pieces)
    if height > MOST_UNFOLDED:
        raise TooLong(height)
    unfolded = []
    for symbols, times in pieces:
        # No symbols may stand there any number of times, which a list can't be multiplied by.
        if symbols:
            unfolded.extend(list(symbols) * times)
    return tuple(unfolded)


def reaches(entry, place):
    """Whether the head comes to a place in the run of an entry."""
    return entry[3] <= place <= entry[4]


def first_at(book, place):
    """The number of steps after which the head is first at a place, or None."""
    # The head moves by one place at most, so it passes all places between two.
    if not reaches(book.known(START_SURFACE), place):
        return None
    surface = START_SURFACE
    steps = 0
    while surface[1] != place:
        act = book.act(surface)
        fallen = fallen_entry(book, surface, act)
        steps += 1
        if fallen is not None and not reaches(fallen, place):
            steps += fallen[1]
            surface = back_to(surface, fallen[0])
        else:
            surface = led_to(surface, act)
    return steps
