"""Points 24 to 26: lasting standings and loops."""

import unittest

from pilerecall.books import Book
from pilerecall.errors import BadSurface
from pilerecall.loops import lasting, loop
from pilerecall.machines import Machine
from pilerecall.running import plain_run
from tests.helpers import pairs, twice
from tests.test_books import START_SURFACE, all_cases
from tests.test_running import stairs, wrong_surfaces


def growing():
    """Goes to the right end, and then for ever puts x and y on an old stack of z."""
    return Machine("a", 3, [
        (0, "<", "", 0, 1, "keep", "", "bb"), (0, "a", "", 0, 1, "push", "z", ""), (0, "a", "z", 0, 1, "push", "z", ""),
        (0, ">", "", 1, 0, "push", "x", ""), (0, ">", "z", 1, 0, "push", "x", ""),
        (1, ">", "x", 2, 0, "push", "y", "c"),
        (2, ">", "y", 1, 0, "push", "x", "de")])


def silent():
    """Says one letter at each place and then moves between the last two places without a word."""
    rules = [(0, sign, "", 0, 1, "keep", "", "s") for sign in "<a"]
    return Machine("a", 2, rules + [(0, ">", "", 1, -1, "keep", "", ""), (1, "a", "", 1, 1, "push", "x", ""),
                                    (1, ">", "x", 0, 0, "pop", "", "")])


class LastingTest(unittest.TestCase):
    def test_runs_that_stop(self):
        expected = (((0, 0, ""), 0, 0), ((1, 1, ""), 1, 0), ((2, 3, ""), 3, 0), ((3, 3, ""), 4, 0))
        self.assertEqual(lasting(Book(pairs(), "ab")), expected)
        self.assertEqual(lasting(Book(pairs(), "a")), (
            ((0, 0, ""), 0, 0), ((1, 1, ""), 1, 0), ((1, 2, "a"), 2, 1)))

    def test_runs_that_fall(self):
        self.assertEqual(lasting(book=Book(pairs(), "ab"), surface=[2, 2, "a"]), (((2, 2, "a"), 0, 0),))

    def test_runs_of_all_surfaces(self):
        words = set()
        for machine, text, runs in all_cases():
            book = Book(machine, text)
            for one in runs:
                told = lasting(book, list(one))
                self.assertEqual(told, runs[one].lasting())
                self.assertTrue(type(told) is tuple and all(type(row) is tuple for row in told))
                words.add(runs[one].word)
        self.assertEqual(words, {"falls", "stops", "endless"})

    def test_what_is_asked_for(self):
        book = Book(twice(), "aa")
        lasting(book, (0, 2, "x"))
        self.assertEqual(book.worked[0], (0, 2, "x"))
        told = (book.worked, book.recalled, book.closing, len(book))
        for one in list(book):
            lasting(book, one)
            self.assertEqual((book.worked, book.recalled, book.closing, len(book)), told)
        lasting(book)
        self.assertEqual(book.worked[0], START_SURFACE)

    def test_bad_surfaces(self):
        book = Book(twice(), "aa")
        for one in wrong_surfaces(twice(), "aa"):
            with self.subTest(one), self.assertRaises(BadSurface) as caught:
                lasting(book, one)
            self.assertIs(caught.exception.surface, one)
        self.assertEqual((len(book), book.worked), (0, ()))

    def test_long_runs(self):
        book = Book(twice(), "a" * 400)
        told = lasting(book)
        self.assertEqual(told[-1], ((3, 1, ""), 5 * 2 ** 400 - 4, 0))


class LoopTest(unittest.TestCase):
    def test_runs_that_stop(self):
        self.assertIsNone(loop(Book(pairs(), "ab")))
        self.assertIsNone(loop(Book(pairs(), "bbb")))
        self.assertIsNone(loop(Book(twice(), "a" * 400)))

    def test_runs_at_one_height(self):
        self.assertEqual(loop(Book(silent(), "aa")), (3, 3, (0, 3, ""), (), ()))

    def test_runs_that_grow(self):
        self.assertEqual(loop(Book(stairs(), "a")), (2, 1, (0, 2, "p"), ("p",), ("p",)))
        self.assertEqual(loop(Book(growing(), "aaa")), (5, 2, (1, 4, "x"), ("z",) * 3, ("x", "y")))

    def test_drawn_runs(self):
        kinds = set()
        for machine, text, runs in all_cases():
            told = loop(Book(machine, text))
            self.assertEqual(told, runs[START_SURFACE].loop())
            if told is not None:
                self.assertTrue(all(type(part) is tuple for part in (told,) + told[2:]))
                kinds.add((bool(told[3]), bool(told[4])))
        self.assertEqual(kinds, {(False, False), (True, False), (False, True), (True, True)})

    def test_the_run_repeats_itself(self):
        for machine, text, _ in all_cases():
            told = loop(Book(machine, text))
            if told is None:
                continue
            before, period, _, base, growth = told
            for r in range(min(period, 5)):
                state, place, stack = plain_run(machine, text, before + r)[2]
                grown = stack[:len(base)] + growth * 3 + stack[len(base):]
                self.assertEqual(plain_run(machine, text, before + 3 * period + r)[2], (state, place, grown))

    def test_what_is_asked_for(self):
        book = Book(growing(), "aaa")
        loop(book)
        told = (book.worked, book.recalled, book.closing, len(book))
        self.assertEqual((told[0][0], told[2]), (START_SURFACE, (1, 4, "x")))
        loop(book)
        self.assertEqual((book.worked, book.recalled, book.closing, len(book)), told)
        book = Book(pairs(), "ab")
        loop(book)
        self.assertEqual(len(book), 5)


if __name__ == "__main__":
    unittest.main()
