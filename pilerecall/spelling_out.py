"""Printed letters, spelled out without walking the steps that print nothing."""

from pilerecall.courses import fallen_entry
from pilerecall.surfaces import back_to, led_to


class Speech:
    """What runs print, in parts: strings, and surfaces whose runs fall and print letters.

    A surface is broken into parts again. A surface whose only part is another surface prints
    just what that one prints; such rows are gone through once and then jumped over, so that
    the work grows with the letters that are asked for and not with the steps between them.
    """

    def __init__(self, book):
        self.book = book
        self.speakers = {}

    def link_parts(self, surface):
        """The parts printed from a lasting standing to the next one, none of them empty."""
        act = self.book.act(surface)
        parts = [act[4]] if act[4] else []
        fallen = fallen_entry(self.book, surface, act)
        if fallen is not None and fallen[5] > 0:
            parts.append(led_to(surface, act))
        return parts

    def next_on_level(self, surface):
        """The surface behind another one, which falls, at the same level, or None."""
        act = self.book.act(surface)
        if act[2] == "pop":
            return None
        fallen = fallen_entry(self.book, surface, act)
        return led_to(surface, act) if fallen is None else back_to(surface, fallen[0])

    def parts_of(self, surface):
        """The parts that the run from a surface prints, which falls."""
        parts = self.link_parts(surface)
        following = self.next_on_level(surface)
        if following is not None and self.book.kept(following)[5] > 0:
            parts.append(following)
        return parts

    def speaker(self, surface):
        """The first surface that prints the same and has more parts than one surface."""
        passed = []
        while surface not in self.speakers:
            parts = self.parts_of(surface)
            if len(parts) > 1 or isinstance(parts[0], str):
                self.speakers[surface] = surface
            else:
                passed.append(surface)
                surface = parts[0]
        found = self.speakers[surface]
        for one in passed:
            self.speakers[one] = found
        return found

    def size(self, part):
        """The number of letters of a part."""
        return len(part) if isinstance(part, str) else self.book.kept(part)[5]

    def spelled(self, parts, skip, number):
        """So many letters of parts, behind the first ones, which are skipped."""
        pending = parts[::-1]
        told = []
        while pending and number > 0:
            part = pending.pop()
            size = self.size(part)
            if size <= skip:
                skip -= size
            elif isinstance(part, str):
                piece = part[skip:skip + number]
                told.append(piece)
                number -= len(piece)
                skip = 0
            else:
                pending.extend(self.parts_of(self.speaker(part))[::-1])
        return "".join(told)


def course_parts(speech, rows):
    """The parts printed between these lasting standings, which follow one another."""
    return [part for row in rows[:-1] for part in speech.link_parts(row[0])]


def spelled_run(book, course, first, number):
    """So many letters of the run of a course, from the letter with the number first on."""
    speech = Speech(book)
    if course.turn is None:
        return speech.spelled(course_parts(speech, course.rows), first, number)
    parts = course_parts(speech, course.rows[:course.turn + 1])
    if course.letters_round == 0:
        return speech.spelled(parts, first, number)
    if first >= course.letters:
        first = course.letters_before + (first - course.letters_before) % course.letters_round
    # One round may be begun before the first letter, one more may be begun behind the others.
    rounds = number // course.letters_round + 2
    again = course_parts(speech, course.rows[course.turn:])
    return speech.spelled(parts + again * rounds, first, number)
