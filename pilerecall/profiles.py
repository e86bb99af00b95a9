"""Profiles: how often a run meets each surface, and how often it uses each rule."""

from pilerecall.courses import Course, fallen_entry
from pilerecall.leaning import leaned_in_all, leaned_on
from pilerecall.surfaces import led_to, signs_of


def fallen_from(book, surfaces):
    """The surfaces that these surfaces push and that fall."""
    found = []
    for surface in surfaces:
        act = book.act(surface)
        if act is not None and fallen_entry(book, surface, act) is not None:
            found.append(led_to(surface, act))
    return found


def longest_first(book, surfaces):
    """Surfaces that fall, those with more steps before those with fewer."""
    ordered = sorted([(book.kept(surface)[1], surface) for surface in surfaces], reverse=True)
    return [pair[1] for pair in ordered]


def numbers_of(book, lasted):
    """How many standings a part of the run has with each surface that it meets.

    The part is told by the surfaces of its lasting standings, which are met once in it.
    """
    numbers = {surface: 1 for surface in lasted}
    excursions = fallen_from(book, lasted)
    fallen = leaned_in_all(book, excursions)
    for surface in fallen:
        numbers[surface] = 0
    for surface in excursions:
        numbers[surface] += 1
    # A run that falls is longer than those that it leans on, so its number is complete before
    # it is handed on to them.
    for surface in longest_first(book, fallen):
        number = numbers[surface]
        for leaned in leaned_on(book, surface):
            numbers[leaned] = numbers[leaned] + number
    return numbers


def uses_of(book, numbers):
    """How many steps are made by each key, where surfaces are met in these numbers."""
    signs = signs_of(book.text)
    found = {}
    for surface in numbers:
        if book.act(surface) is not None:
            state, place, top = surface
            key = (state, signs[place], top)
            found[key] = found.get(key, 0) + numbers[surface]
    return found


def numbers_of_parts(book):
    """The numbers of the standings before the round, and those of one round or None."""
    course = Course(book)
    lasted = [row[0] for row in course.rows]
    if course.turn is None:
        return (numbers_of(book, lasted), None)
    return (numbers_of(book, lasted[:course.turn]), numbers_of(book, lasted[course.turn:-1]))


def ascending_items(numbers):
    """The items of a dict as pairs in ascending order."""
    return tuple(sorted([(key, numbers[key]) for key in numbers]))


def counts(book):
    """How many standings of the run have each surface: (before, turn)."""
    before, turn = numbers_of_parts(book)
    return (ascending_items(before), None if turn is None else ascending_items(turn))


def uses(book):
    """How many steps of the run are made by the rule with each key: (before, turn)."""
    before, turn = numbers_of_parts(book)
    before_uses = ascending_items(uses_of(book, before))
    return (before_uses, None if turn is None else ascending_items(uses_of(book, turn)))
