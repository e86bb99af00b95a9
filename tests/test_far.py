"""Points 26 to 29: standings after any number of steps, pieces, and first visits."""

import unittest

from pilerecall.books import Book
from pilerecall.errors import TooLong
from pilerecall.far import first_at, height_of, standing_at, unfold
from pilerecall.machines import Machine
from pilerecall.running import plain_run
from tests.helpers import pairs, twice
from tests.test_books import START_SURFACE, all_cases
from tests.test_loops import growing, silent


def pieces_by_words(run, steps):
    """The pieces of a stack by point 27."""
    if run.word != "endless" or steps < run.T:
        stack = run.standings[steps][2]
        return ((stack, 1),) if stack else ()
    before, period, _, base, growth = run.loop()
    k, r = divmod(steps - before, period)
    pieces = ((base, 1), (growth, k), (run.standings[before + r][2][len(base):], 1))
    return tuple(piece for piece in pieces if piece[0])


class StandingAtTest(unittest.TestCase):
    def test_a_run_that_stops(self):
        book = Book(pairs(), "ab")
        told = [standing_at(book, steps) for steps in range(7)]
        self.assertEqual(told[:5], [(0, 0, ()), (1, 1, ()), (1, 2, ((("a",), 1),)), (2, 3, ()), (3, 3, ())])
        self.assertEqual(told[5:], [None, None])
        self.assertIsNone(standing_at(book=book, steps=10 ** 50))

    def test_a_run_that_grows(self):
        book = Book(growing(), "aaa")
        z, growth = ("z",) * 3, ("x", "y")
        self.assertEqual(standing_at(book, 6), (2, 4, ((z + ("x", "y"), 1),)))
        self.assertEqual(standing_at(book, 7), (1, 4, ((z, 1), (growth, 1), (("x",), 1))))
        self.assertEqual(standing_at(book, 8), (2, 4, ((z, 1), (growth, 1), (("x", "y"), 1))))
        self.assertEqual(standing_at(book, 5 + 2 * 10 ** 40), (1, 4, ((z, 1), (growth, 10 ** 40), (("x",), 1))))

    def test_a_run_at_one_height(self):
        book = Book(silent(), "aa")
        for k in (1, 2, 10 ** 30):
            self.assertEqual(standing_at(book, 3 + 3 * k), (0, 3, ()))
            self.assertEqual(standing_at(book, 4 + 3 * k), (1, 2, ()))
            self.assertEqual(standing_at(book, 5 + 3 * k), (1, 3, ((("x",), 1),)))

    def test_drawn_runs(self):
        for machine, text, runs in all_cases():
            run, book = runs[START_SURFACE], Book(machine, text)
            for steps in range(len(run.standings)):
                state, place, stack = run.standings[steps]
                pieces = pieces_by_words(run, steps)
                self.assertEqual(standing_at(book, steps), (state, place, pieces))
                self.assertEqual(unfold(pieces), stack)
                self.assertEqual(height_of(pieces), len(stack))
            if run.word == "stops":
                self.assertIsNone(standing_at(book, len(run.standings)))

    def test_steps_that_can_not_be_walked(self):
        book = Book(twice(), "a" * 400)
        last = 5 * 2 ** 400 - 4
        self.assertEqual(standing_at(book, last), (3, 1, ()))
        self.assertIsNone(standing_at(book, last + 1))
        self.assertEqual(standing_at(book, 401), (0, 401, ((("x",) * 400, 1),)))
        # The last steps are the same for all lengths of the text: the way back from the right end.
        small = plain_run(twice(), "a" * 12, 5 * 2 ** 12 - 4 - 20)[2]
        state, place, pieces = standing_at(book, last - 20)
        self.assertEqual((state, place), small[:2])
        self.assertEqual(unfold(pieces), small[2])

    def test_what_is_asked_for(self):
        for function in (standing_at, first_at):
            for number in (0, 10 ** 40):
                book = Book(growing(), "aaa")
                function(book, number)
                told = (book.worked, book.recalled, book.closing, len(book))
                self.assertEqual(told[0][0], START_SURFACE)
                function(book, number)
                self.assertEqual((book.worked, book.recalled, book.closing, len(book)), told)
        book = Book(pairs(), "ab")
        first_at(book, -5)
        self.assertEqual(len(book), 5)
        book.ask((1, 1, "a"))
        told = (book.worked, book.recalled)
        standing_at(book, 3)
        self.assertEqual((book.worked, book.recalled), told)


class PiecesTest(unittest.TestCase):
    def test_height_of(self):
        self.assertEqual(height_of(()), 0)
        self.assertEqual(height_of(((("a", "b"), 10 ** 30), (("c",), 5))), 2 * 10 ** 30 + 5)
        self.assertEqual(height_of(pieces=[[["a", "b"], 3], [["c"], 1]]), 7)

    def test_unfold(self):
        self.assertEqual(unfold(()), ())
        pieces = [[["a", "b"], 2], [["c"], 3]]
        self.assertEqual(unfold(pieces=pieces), ("a", "b", "a", "b", "c", "c", "c"))
        self.assertEqual(pieces, [[["a", "b"], 2], [["c"], 3]])
        self.assertIs(type(unfold(pieces)), tuple)
        self.assertEqual(unfold((((), 10 ** 40), (("a",), 1))), ("a",))

    def test_too_long(self):
        self.assertEqual(unfold(((("a",), 9999), (("b",), 1))), ("a",) * 9999 + ("b",))
        for pieces, length in ((((("a",), 10001),), 10001), (((("a", "b"), 10 ** 40),), 2 * 10 ** 40),
                               (((("a",), 5000), (("b", "c"), 2501)), 10002)):
            with self.assertRaises(TooLong) as caught:
                unfold(pieces)
            self.assertEqual(caught.exception.length, length)


class FirstAtTest(unittest.TestCase):
    def test_pairs(self):
        book = Book(pairs(), "ab")
        self.assertEqual([first_at(book, place) for place in range(-2, 6)], [None, None, 0, 1, 2, 3, None, None])
        self.assertIsNone(first_at(book=Book(pairs(), "baa"), place=2))
        self.assertIsNone(first_at(book, 10 ** 30))
        self.assertIsNone(first_at(book, -10 ** 30))

    def test_drawn_runs(self):
        for machine, text, runs in all_cases():
            places = [standing[1] for standing in runs[START_SURFACE].standings]
            book = Book(machine, text)
            for place in range(-1, len(text) + 4):
                expected = places.index(place) if place in places else None
                self.assertEqual(first_at(book, place), expected)

    def test_places_that_are_reached_late(self):
        # twice up to a letter b; only when its run is done does the head go on behind this letter.
        rules = [(rule[0], rule[1].replace(">", "b")) + rule[2:] for rule in twice().rules]
        rules += [(3, "a", "", 4, 1, "keep", "", "")] + [(4, sign, "", 4, 1, "keep", "", "") for sign in "ab"]
        machine = Machine("ab", 5, rules)
        for n in (1, 2, 6, 100, 398):
            book = Book(machine, "a" * n + "ba")
            done = 5 * 2 ** n - 4
            self.assertEqual([first_at(book, place) for place in (0, n, n + 1)], [0, n, n + 1])
            self.assertEqual([first_at(book, n + 2), first_at(book, n + 3)], [done + n + 1, done + n + 2])
            self.assertIsNone(first_at(book, n + 4))


if __name__ == "__main__":
    unittest.main()
