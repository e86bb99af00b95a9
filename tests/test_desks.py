"""Points 38 to 42 and 44: desks, splices, undos and trials."""

import random
import unittest

from pilerecall.books import Book, answer
from pilerecall.desks import Desk, Trial
from pilerecall.errors import BadSplice, BadText, Guesses, NothingToUndo, RecallError
from pilerecall.loops import loop
from pilerecall.machines import Machine
from pilerecall.profiles import counts, uses
from pilerecall.rows import paper, row_fault, rows
from tests.helpers import all_surfaces, cases, guessing, pairs, random_text, twice
from tests.naive import NaiveRun, Undecided
from tests.test_standings import WRONG_TEXTS


def walker():
    """Goes to the right end over any text and stops there; each surface has its own place."""
    return Machine("ab", 1, [(0, sign, "", 0, 1, "keep", "", "") for sign in "<ab"], [0])


def bouncing():
    """Goes to the left end and back, pushing and popping on the way; says yes at the right end."""
    rules = [(0, "<", "", 1, 1, "push", "A", "")]
    for sign in "ab":
        rules += [(1, sign, "A", 2, 0, "push", "B", ""), (2, sign, "B", 3, 1 if sign == "a" else 0, "pop", "", "k"),
                  (3, sign, "A", 1, 0 if sign == "a" else 1, "swap", "A", "")]
    rules += [(1, ">", "A", 4, 0, "pop", "", ""), (3, ">", "A", 4, -1, "pop", "", "")]
    return Machine("ab", 5, rules, [4])


def moved_row(row, by):
    """A row of point 40 whose places are moved."""
    surface, end, steps, rise, low, high, letters = row
    if end[0] != "endless":
        end = end[:2] + (end[2] + by,) + end[3:]
    return ((surface[0], surface[1] + by, surface[2]), end, steps, rise, low + by, high + by, letters)


def rows_left(told, place, removed, by):
    """The rows of point 40 that a splice does not touch."""
    left = []
    for row in told:
        if row[5] < place:
            left.append(row)
        elif row[4] >= place + removed:
            left.append(moved_row(row, by))
    return left


def state_of(desk):
    """What a desk holds, with its book as an object and as values."""
    book = desk.book
    return desk.text, id(book), desk.splices, rows(book), book.worked, book.recalled, book.closing


def draw_splice(rng, desk):
    """A right splice, anywhere in the text."""
    size = len(desk.text)
    place = rng.randint(1, size + 1)
    removed = rng.randint(0, min(3, size + 1 - place))
    return place, removed, random_text(rng, desk.machine.letters, 3)


class DeskTest(unittest.TestCase):
    def test_a_new_desk(self):
        machine = pairs()
        desk = Desk(machine=machine, text="ab")
        self.assertIs(desk.machine, machine)
        self.assertEqual((desk.text, desk.splices), ("ab", 0))
        self.assertIsInstance(desk.book, Book)
        self.assertIs(desk.book.machine, machine)
        self.assertEqual((desk.book.text, len(desk.book), desk.book.worked, desk.book.recalled), ("ab", 0, (), ()))
        book = desk.book
        self.assertEqual(desk.answer(), "yes")
        self.assertIs(desk.book, book)
        self.assertEqual(len(book), 5)
        told = (book.worked, book.recalled)
        self.assertEqual(desk.answer(), "yes")
        self.assertEqual((book.worked, book.recalled), told)

    def test_texts_come_before_guesses(self):
        for machine in (pairs(), guessing()):
            for text in WRONG_TEXTS:
                with self.subTest(text=text), self.assertRaises(BadText) as caught:
                    Desk(machine, text)
                self.assertIs(caught.exception.text, text)
        with self.assertRaises(Guesses) as caught:
            Desk(guessing(), "ab")
        self.assertEqual(caught.exception.key, (0, "<", ""))


class SpliceTest(unittest.TestCase):
    def test_splices_change_the_text(self):
        for place, removed, letters, text in (
            (1, 0, "", "abab"), (1, 0, "bb", "bbabab"), (1, 1, "", "bab"), (1, 4, "", ""), (1, 4, "b", "b"),
            (2, 2, "aaa", "aaaab"), (3, 1, "b", "abbb"), (4, 1, "", "aba"), (5, 0, "a", "ababa"), (5, 0, "", "abab"),
            (4, 0, "aa", "abaaab"), (2, 3, "bb", "abb"),
        ):
            with self.subTest(place=place, removed=removed, letters=letters):
                desk = Desk(pairs(), "abab")
                desk.answer()
                book = desk.book
                kept = desk.splice(place=place, removed=removed, letters=letters)
                self.assertEqual((desk.text, desk.book.text, desk.splices), (text, text, 1))
                self.assertIsNot(desk.book, book)
                self.assertEqual(kept, len(desk.book))
                self.assertEqual((desk.book.worked, desk.book.recalled, desk.book.closing), ((), (), None))
                self.assertEqual(desk.answer(), answer(pairs(), text))

    def test_which_entries_are_touched(self):
        # The runs of the walker from place p go over the places p to 5.
        desk = Desk(walker(), "abab")
        desk.answer()
        for place, removed, left in (
            (1, 0, [1, 2, 3, 4, 5]), (1, 1, [2, 3, 4, 5]), (3, 0, [3, 4, 5]), (3, 1, [4, 5]), (3, 2, [5]), (5, 0, [5]),
            (1, 4, [5]),
        ):
            with self.subTest(place=place, removed=removed), Trial(desk):
                self.assertEqual(desk.splice(place, removed, "bbb"), len(left))
                by = 3 - removed
                expected = [((0, at + by, ""), ("stops", 0, 5 + by, ""), 5 - at, 0, at + by, 5 + by, 0) for at in left]
                self.assertEqual(list(rows(desk.book)), expected)

    def test_entries_before_the_place_stay_as_they_are(self):
        desk = Desk(bouncing(), "ababab")
        desk.answer()
        told = rows(desk.book)
        before = [row for row in told if row[5] < 4]
        self.assertTrue(any(row[1][0] == "falls" and row[1][2] == 4 for row in before))
        behind = [row for row in told if row[4] >= 6]
        self.assertTrue(any(row[1][0] == "falls" for row in behind))
        desk.splice(4, 2, "")
        self.assertEqual(rows(desk.book), tuple(row if row[5] < 4 else moved_row(row, -2)
                                                for row in told if row[5] < 4 or row[4] >= 6))
        self.assertEqual(len(desk.book), len(before) + len(behind))

    def test_endless_entries_move(self):
        # At the right end the head moves between the last two places without end.
        rules = [(0, sign, "", 0, 1, "keep", "", "k") for sign in "<a"]
        rules += [(0, ">", "", 1, -1, "keep", "", ""), (1, "a", "", 0, 1, "keep", "", "")]
        desk = Desk(Machine("a", 2, rules), "aaaa")
        self.assertEqual(desk.answer(), "endless")
        self.assertEqual(desk.splice(1, 1, "aaa"), 5)
        self.assertEqual(desk.book.entry((0, 7, "")), (("endless",), None, None, 6, 7, None))
        self.assertEqual(desk.book.entry((0, 4, "")), (("endless",), None, None, 4, 7, None))
        self.assertEqual(desk.answer(), "endless")
        self.assertEqual(desk.book.entry((0, 0, "")), (("endless",), None, None, 0, 7, None))

    def test_splices_of_drawn_machines(self):
        rng = random.Random(71)
        seen = {"same": 0, "moved": 0, "touched": 0}
        for machine, text in cases(72, 150, most_states=4):
            desk = Desk(machine, text)
            for _ in range(5):
                for one in rng.sample(all_surfaces(machine, desk.text), 3):
                    desk.book.ask(one)
                desk.answer()
                told = rows(desk.book)
                splice = draw_splice(rng, desk)
                by = len(splice[2]) - splice[1]
                expected = rows_left(told, splice[0], splice[1], by)
                self.assertEqual(desk.splice(*splice), len(expected))
                self.assertEqual(list(rows(desk.book)), expected)
                self.check_book(desk)
                seen["touched"] += len(told) - len(expected)
                seen["same"] += sum(row in told for row in expected) if by else 0
                seen["moved"] += sum(row not in told for row in expected)
        self.assertTrue(all(number > 200 for number in seen.values()), seen)

    def check_book(self, desk):
        """What points 37 and 44 say of the new book."""
        book, kept = desk.book, list(desk.book)
        self.assertEqual(len(kept), len(set(kept)))
        self.assertIsNone(row_fault(desk.machine, desk.text, rows(book)))
        for one in kept:
            try:
                run = NaiveRun(desk.machine, desk.text, one, 300)
            except Undecided:
                continue
            self.assertEqual(book.entry(one), run.entry())
        empty = Book(desk.machine, desk.text)
        self.assertEqual(desk.answer(), empty.answer())
        # What is worked is lacking, and worked once; the surfaces of the run that are not worked were kept.
        if (0, 0, "") not in kept:
            self.assertEqual(len(set(book.worked)), len(book.worked))
            self.assertFalse(set(book.worked) & set(kept))
            self.assertTrue(set(empty) <= set(book.worked) | set(kept))
            self.assertEqual(book.entry((0, 0, "")), empty.entry((0, 0, "")))
        else:
            self.assertEqual(book.worked, ())
        self.assertEqual(list(book), kept + list(book.worked))
        for function in (loop, counts, uses, paper):
            self.assertEqual(function(book), function(empty))

    def test_a_long_text(self):
        n = 300
        desk = Desk(twice(), "a" * n)
        desk.answer()
        told = rows(desk.book)
        self.assertEqual(desk.splice(1, 0, "a"), sum(row[4] >= 1 for row in told))
        self.assertEqual(desk.answer(), "yes")
        # Only what leans on the start is worked anew.
        self.assertLess(len(desk.book.worked), 20)
        self.assertEqual(desk.book.entry((0, 0, ""))[1], 5 * 2 ** (n + 1) - 4)


class BadSpliceTest(unittest.TestCase):
    def test_wrong_values(self):
        desk = Desk(pairs(), "abab")
        desk.answer()
        desk.splice(1, 0, "")
        kept = state_of(desk)
        odd = [None, True, False, 1.0, "1", (), [], object()]
        wrong = [(place, 0, "a") for place in odd + [0, -1, 6, 10 ** 30]]
        wrong += [(2, removed, "a") for removed in odd + [-1, 4, 10 ** 30]]
        wrong += [(1, 5, ""), (5, 1, ""), (4, 2, "a")]
        strings = ["c", "A", "a b", "ab\n", "<", ["a"], ("a",), b"a"]
        wrong += [(1, 0, letters) for letters in odd + strings]
        wrong += [(1, 0, "a" * 397), (5, 4, "a" * 401), (1, 4, "a" * 401), (1, 3, "a" * 400)]
        for place, removed, letters in wrong:
            with self.subTest(place=place, removed=removed), self.assertRaises(BadSplice) as caught:
                desk.splice(place, removed, letters)
            error = caught.exception
            self.assertIs(error.place, place)
            self.assertIs(error.removed, removed)
            self.assertIs(error.letters, letters)
            self.assertEqual(state_of(desk), kept)

    def test_texts_of_400_letters(self):
        desk = Desk(pairs(), "abab")
        for splice in ((1, 0, "a" * 396), (5, 0, "a" * 396), (1, 4, "a" * 400), (2, 2, "b" * 398)):
            with Trial(desk):
                desk.splice(*splice)
                self.assertEqual(len(desk.text), 400)
                with self.assertRaises(BadSplice):
                    desk.splice(1, 0, "a")
                desk.splice(400, 1, "b")
                desk.splice(401, 0, "")
                self.assertEqual(len(desk.text), 400)


class UndoTest(unittest.TestCase):
    def test_undo(self):
        desk = Desk(pairs(), "ab")
        states, books = [], []
        for splice in ((1, 0, "a"), (2, 1, ""), (1, 0, ""), (3, 0, "b")):
            desk.answer()
            states.append(state_of(desk))
            books.append(desk.book)
            desk.splice(*splice)
        self.assertEqual(desk.splices, 4)
        while states:
            self.assertIsNone(desk.undo())
            self.assertIs(desk.book, books.pop())
            self.assertEqual(state_of(desk), states.pop())
        self.assertEqual(desk.splices, 0)

    def test_splices_after_an_undo(self):
        desk = Desk(pairs(), "ab")
        desk.splice(1, 1, "")
        desk.splice(1, 1, "")
        desk.undo()
        desk.splice(1, 0, "aa")
        self.assertEqual((desk.text, desk.splices), ("aab", 2))
        desk.undo()
        desk.undo()
        self.assertEqual((desk.text, desk.splices), ("ab", 0))

    def test_what_was_asked_meanwhile_is_not_taken_back(self):
        desk = Desk(pairs(), "ab")
        first = desk.book
        desk.splice(1, 0, "a")
        first.ask((2, 3, ""))
        desk.undo()
        self.assertIs(desk.book, first)
        self.assertEqual(list(first), [(2, 3, ""), (3, 3, "")])

    def test_nothing_to_undo(self):
        desk = Desk(pairs(), "ab")
        with self.assertRaises(NothingToUndo):
            desk.undo()
        desk.splice(1, 1, "")
        desk.undo()
        kept = state_of(desk)
        with self.assertRaises(NothingToUndo):
            desk.undo()
        self.assertEqual(state_of(desk), kept)


class TrialTest(unittest.TestCase):
    def test_the_block_gives_the_desk_itself(self):
        desk = Desk(pairs(), "ab")
        with Trial(desk=desk) as same:
            self.assertIs(same, desk)

    def test_all_is_taken_back(self):
        desk = Desk(pairs(), "ab")
        desk.splice(1, 0, "a")
        desk.splice(4, 0, "b")
        desk.answer()
        kept, book = state_of(desk), desk.book
        with Trial(desk) as same:
            same.splice(1, 1, "")
            same.answer()
            same.splice(1, 1, "")
            self.assertEqual((desk.text, desk.splices), ("bb", 4))
        self.assertIs(desk.book, book)
        self.assertEqual(state_of(desk), kept)
        desk.undo()
        self.assertEqual((desk.text, desk.splices), ("aab", 1))
        desk.undo()
        self.assertEqual((desk.text, desk.splices), ("ab", 0))

    def test_the_book_keeps_what_it_got_meanwhile(self):
        desk = Desk(pairs(), "ab")
        book = desk.book
        with Trial(desk):
            book.ask((2, 3, ""))
            desk.answer()
            told = (book.worked, book.recalled, book.closing, rows(book))
            desk.splice(1, 0, "")
        self.assertIs(desk.book, book)
        self.assertEqual((book.worked, book.recalled, book.closing, rows(book)), told)
        self.assertEqual(book.recalled, ((2, 3, ""),))

    def test_earlier_splices_undone_within(self):
        desk = Desk(pairs(), "ab")
        books = [desk.book]
        for place in (1, 2, 3):
            desk.splice(place, 0, "a")
            books.append(desk.book)
        with Trial(desk):
            desk.undo()
            desk.undo()
            self.assertEqual((desk.text, desk.splices), ("aab", 1))
            desk.splice(1, 3, "")
            desk.undo()
            desk.undo()
            with self.assertRaises(NothingToUndo):
                desk.undo()
        self.assertEqual((desk.text, desk.splices), ("aaaab", 3))
        for book in books[::-1]:
            self.assertIs(desk.book, book)
            if desk.splices:
                desk.undo()
        self.assertEqual((desk.text, desk.splices), ("ab", 0))

    def test_errors_leave_the_block(self):
        class Odd(Exception):
            pass

        for error in (Odd("x"), BadText("y"), KeyboardInterrupt(), StopIteration()):
            desk = Desk(pairs(), "ab")
            kept = state_of(desk)
            with self.assertRaises(type(error)) as caught:
                with Trial(desk):
                    desk.splice(1, 0, "a")
                    raise error
            self.assertIs(caught.exception, error)
            self.assertEqual(state_of(desk), kept)
        with self.assertRaises(RecallError), Trial(desk):
            desk.splice(1, 0, "a")
            desk.splice(1, 0, "z")
        self.assertEqual(state_of(desk), kept)

    def test_trials_within_trials(self):
        desk = Desk(pairs(), "ab")
        desk.splice(1, 0, "a")
        outer = state_of(desk)
        with Trial(desk):
            desk.undo()
            desk.splice(1, 2, "")
            inner = state_of(desk)
            with Trial(desk):
                desk.splice(1, 0, "b")
                desk.undo()
                desk.undo()
                self.assertEqual((desk.text, desk.splices), ("ab", 0))
            self.assertEqual(state_of(desk), inner)
            desk.splice(1, 0, "b")
            with self.assertRaises(NothingToUndo):
                with Trial(desk):
                    for _ in range(5):
                        desk.undo()
            self.assertEqual((desk.text, desk.splices), ("b", 2))
            desk.undo()
            self.assertEqual(state_of(desk), inner)
        self.assertEqual(state_of(desk), outer)
        desk.undo()
        self.assertEqual(desk.text, "ab")

    def test_one_trial_entered_again(self):
        desk = Desk(pairs(), "ab")
        trial = Trial(desk)
        desk.splice(1, 0, "a")
        for splice in ((1, 0, "b"), (1, 1, ""), (2, 1, "bb")):
            kept = state_of(desk)
            with trial as same:
                self.assertIs(same, desk)
                desk.undo()
                desk.splice(1, 0, "b")
                desk.splice(1, 0, "b")
            self.assertEqual(state_of(desk), kept)
            desk.splice(*splice)
        texts = []
        while desk.splices:
            desk.undo()
            texts.append(desk.text)
        self.assertEqual(texts, ["aab", "baab", "aab", "ab"])

    def test_splices_behind_a_trial_can_be_undone(self):
        # What is done behind a trial does not reach into what the trial brings back when it is entered again.
        desk = Desk(pairs(), "ab")
        trial = Trial(desk)
        with trial:
            desk.splice(1, 0, "a")
        desk.splice(1, 0, "b")
        desk.splice(1, 0, "b")
        with trial:
            desk.undo()
        self.assertEqual((desk.text, desk.splices), ("bbab", 2))
        desk.undo()
        desk.undo()
        self.assertEqual((desk.text, desk.splices), ("ab", 0))


if __name__ == "__main__":
    unittest.main()
