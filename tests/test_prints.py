"""Points 26 and 30: printed letters."""

import random
import unittest

from pilerecall.books import Book
from pilerecall.errors import TooLong
from pilerecall.machines import Machine
from pilerecall.prints import letter_at, letters_before, letters_said, said_between
from pilerecall.running import plain_run
from tests.helpers import pairs, twice
from tests.test_books import START_SURFACE, all_cases
from tests.test_loops import growing, silent
from tests.test_running import stairs


class CountingBook(Book):
    """A book that counts how many acts it looks up."""

    looked_up = 0

    def act(self, surface):
        self.looked_up += 1
        return Book.act(self, surface)


def counter(said="", rest=""):
    """Like twice, but each step of the run that prints nothing says rest, and each other one says said."""
    return Machine("a", 4, [rule[:7] + (said if rule[7] else rest,) for rule in twice().rules], [3])


class LettersTest(unittest.TestCase):
    def test_runs_that_stop(self):
        book = Book(pairs(), "ab")
        self.assertEqual((letters_said(book), letters_before(book, 3), letter_at(book, 0)), (0, 0, None))
        self.assertEqual(said_between(book, 0, 10), "")
        book = Book(twice(), "aa")
        self.assertEqual(letters_said(book=book), 4)
        self.assertEqual([letters_before(book, steps) for steps in (0, 4, 5, 16, 17, 10 ** 30)], [0, 1, 1, 4, 4, 4])
        self.assertEqual([letter_at(book, index) for index in range(6)], ["k"] * 4 + [None, None])
        self.assertEqual(said_between(book, 1, 3), "kk")
        self.assertEqual(said_between(book, 3, 10), "k")

    def test_runs_without_end(self):
        book = Book(growing(), "aaa")
        self.assertIsNone(letters_said(book))
        self.assertEqual(said_between(book, 0, 9), "bbcdecdec")
        for k in (0, 1, 10 ** 40):
            self.assertEqual(letters_before(book, 5 + 2 * k), 2 + 3 * k)
            self.assertEqual(letters_before(book, 6 + 2 * k), 3 + 3 * k)
            self.assertEqual([letter_at(book, 2 + 3 * k + j) for j in range(4)], list("cdec"))
            self.assertEqual(said_between(book, 3 + 3 * k, 8 + 3 * k), "decde")
        told = said_between(book, 10 ** 40, 10 ** 40 + 10000)
        self.assertEqual((len(told), told[:-1]), (10000, said_between(book, 10 ** 40, 10 ** 40 + 9999)))

    def test_runs_that_grow_silent(self):
        book = Book(silent(), "aa")
        self.assertEqual(letters_said(book), 3)
        self.assertEqual([letters_before(book, steps) for steps in (0, 1, 3, 4, 10 ** 40)], [0, 1, 3, 3, 3])
        self.assertEqual((letter_at(book, 2), letter_at(book, 3), letter_at(book, 10 ** 40)), ("s", None, None))
        self.assertEqual((said_between(book, 1, 100), said_between(book, 10 ** 40, 10 ** 40 + 5)), ("ss", ""))

    def test_drawn_runs(self):
        rng = random.Random(71)
        kinds = set()
        for machine, text, runs in all_cases():
            run, book = runs[START_SURFACE], Book(machine, text)
            said = "".join(run.said)
            printing = run.word == "endless" and any(run.said[run.t:run.T])
            kinds.add((run.word, printing))
            self.assertEqual(letters_said(book), None if printing else len(said))
            for steps in range(len(run.said) + 1):
                self.assertEqual(letters_before(book, steps), len("".join(run.said[:steps])))
            for index in range(len(said)):
                self.assertEqual(letter_at(book, index), said[index])
            for _ in range(10):
                first, last = rng.randint(0, len(said)), rng.randint(0, len(said))
                self.assertEqual(said_between(book, first, last), said[first:last])
            if not printing:
                self.assertIsNone(letter_at(book, len(said)))
                self.assertEqual(said_between(book, 0, len(said) + 9), said)
                self.assertEqual(letters_before(book, 10 ** 30), len(said))
        self.assertEqual(kinds, {("stops", False), ("endless", False), ("endless", True)})

    def test_letters_far_away_in_endless_runs(self):
        for machine, text, runs in all_cases():
            run = runs[START_SURFACE]
            if run.word != "endless" or not any(run.said[run.t:run.T]):
                continue
            book = Book(machine, text)
            before, turn = "".join(run.said[:run.t]), "".join(run.said[run.t:run.T])
            k = 10 ** 25 + 3
            first = len(before) + k * len(turn)
            self.assertEqual(letters_before(book, run.t + k * (run.T - run.t)), first)
            self.assertEqual(said_between(book, first - 1, first + 50), (turn[-1] + turn * 50)[:51])
            self.assertEqual(letter_at(book, first), turn[0])
            self.assertEqual(said_between(book, 0, 60), (before + turn * 60)[:60])


class FarLettersTest(unittest.TestCase):
    def test_more_letters_than_can_be_walked(self):
        book = Book(twice(), "a" * 400)
        self.assertEqual(letters_said(book), 2 ** 400)
        self.assertEqual((letter_at(book, 2 ** 400 - 1), letter_at(book, 2 ** 400)), ("k", None))
        self.assertEqual(said_between(book, 2 ** 399, 2 ** 399 + 10000), "k" * 10000)
        self.assertEqual(said_between(book, 2 ** 400 - 3, 2 ** 400 + 3), "kkk")
        self.assertEqual(letters_before(book, 5 * 2 ** 400), 2 ** 400)

    def test_few_letters_between_many_steps(self):
        # 2 ** 300 silent steps between one word and the next, again and again.
        rules = [rule[:7] + ("",) for rule in twice().rules if rule[:3] != (3, "<", "")]
        rules += [(3, "a", "", 3, -1, "keep", "", ""), (3, "<", "", 0, 0, "keep", "", "xyz")]
        book = Book(Machine("a", 4, [rule for rule in rules if rule[:3] != (0, ">", "")]), "a" * 300)
        self.assertEqual(book.answer(), "endless")
        self.assertIsNone(letters_said(book))
        self.assertEqual(said_between(book, 10 ** 50 + 2, 10 ** 50 + 10002), "xyz" * 3333 + "x")

    def test_few_letters_at_the_bottom_of_tall_stacks(self):
        # Each letter lies at the far end of hundreds of pushes and as many pops, which print nothing.
        tops = ("", "x")
        rules = [(state, sign, top, state, 1, "push", "x", "") for state in (0, 1) for sign in "<a" for top in tops]
        rules += [(0, ">", "x", 2, 0, "pop", "", "p"), (1, ">", "x", 2, 0, "pop", "", "q")]
        rules += [(2, "a", "x", 2, -1, "pop", "", "")] + [(2, ">", top, 2, -1, "keep", "", "") for top in tops]
        rules += [(2, "<", "", 1, 0, "keep", "", "")]
        machine = Machine("a", 3, rules)
        for n in (0, 1, 3, 400):
            book = Book(machine, "a" * n)
            said = plain_run(machine, "a" * n, 5000)[3]
            self.assertEqual(said, ("p" + "q" * 5000)[:len(said)])
            self.assertEqual(said_between(book, 0, len(said)), said)
            self.assertEqual(said_between(book, 0, 10000), "p" + "q" * 9999)
            self.assertEqual([letter_at(book, index) for index in (0, 1, 10 ** 30)], ["p", "q", "q"])
        book = CountingBook(machine, "a" * 400)
        said_between(book, 10 ** 30, 10 ** 30 + 10000)
        self.assertLess(book.looked_up, 60000)

    def test_the_beginning_of_far_runs(self):
        for n in (1, 2, 5):
            book = Book(counter("kl", "m"), "a" * n)
            said = said_between(book, 0, 9000)
            self.assertEqual(len(said), letters_said(book))
            self.assertEqual(said, plain_run(counter("kl", "m"), "a" * n, 9000)[3])
        near, far = Book(counter("kl", "m"), "a" * 12), Book(counter("kl", "m"), "a" * 300)
        self.assertEqual(letters_said(far), 2 * 2 ** 300 + 4 * 2 ** 300 - 4)
        # Behind the way to the right end both runs begin with the same calls.
        self.assertEqual(said_between(far, 301, 10301), said_between(near, 13, 10013))
        self.assertEqual(letter_at(far, 9000), letter_at(near, 9000 - 288))


class BoundsTest(unittest.TestCase):
    def test_too_long_before_anything_is_asked_for(self):
        for first, last in ((0, 10001), (5, 10 ** 40), (10 ** 40, 10 ** 41)):
            book = Book(stairs(), "a")
            with self.assertRaises(TooLong) as caught:
                said_between(book, first, last)
            self.assertEqual(caught.exception.length, last - first)
            self.assertEqual((len(book), book.worked), (0, ()))
        with self.assertRaises(TooLong):
            said_between(Book(pairs(), "ab"), 0, 10001)

    def test_ten_thousand_letters(self):
        self.assertEqual(said_between(Book(stairs(), "a"), 7, 10007), "s" * 10000)
        self.assertEqual(said_between(book=Book(pairs(), "ab"), first=0, last=10000), "")

    def test_no_letters_wanted(self):
        for first, last in ((0, 0), (5, 5), (5, 4), (10 ** 40, 0), (10 ** 40, 10 ** 40)):
            for machine in (stairs(), silent(), growing()):
                book = Book(machine, "a")
                self.assertEqual(said_between(book, first, last), "")
                self.assertEqual(book.worked[0], START_SURFACE)

    def test_what_is_asked_for(self):
        calls = (letters_said, lambda book: letters_before(book, 0), lambda book: letter_at(book, 10 ** 40),
                 lambda book: said_between(book, 0, 0))
        for call in calls:
            book = Book(growing(), "aaa")
            call(book)
            told = (book.worked, book.recalled, book.closing, len(book))
            self.assertEqual(told[0][0], START_SURFACE)
            call(book)
            self.assertEqual((book.worked, book.recalled, book.closing, len(book)), told)


if __name__ == "__main__":
    unittest.main()
