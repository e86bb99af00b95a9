"""Points 17 to 21 and 23: books, their entries, the kept run and the answers."""

import random
import unittest

from pilerecall.bills import meetings_at_most
from pilerecall.books import Book, answer
from pilerecall.errors import BadSurface, BadText, Guesses
from pilerecall.machines import Machine
from pilerecall.running import excursion
from tests.helpers import all_surfaces, cases, guessing, long_cases, pairs, rules_at, surface, twice
from tests.naive import NaiveRun, Undecided, naive_ask
from tests.test_running import wrong_surfaces
from tests.test_standings import WRONG_TEXTS

START_SURFACE = (0, 0, "")


def decided(drawn):
    """The drawn machines and texts of which all runs are decided, with the run of each surface."""
    for machine, text in drawn:
        try:
            yield machine, text, {one: NaiveRun(machine, text, one) for one in all_surfaces(machine, text)}
        except Undecided:
            pass


def all_cases():
    """Short and longer runs."""
    yield from decided(cases(51, 60, most_states=4))
    yield from decided(long_cases(52, 80))


class EntriesTest(unittest.TestCase):
    def test_examples(self):
        book = Book(pairs(), "ab")
        self.assertEqual(book.ask(), ("stops", 3, 3, ""))
        self.assertEqual(book.worked, ((0, 0, ""), (1, 1, ""), (1, 2, "a"), (2, 3, ""), (3, 3, "")))
        self.assertEqual(book.entry((0, 0, "")), (("stops", 3, 3, ""), 4, 1, 0, 3, 0))
        long = Book(twice(), "a" * 60)
        self.assertEqual(long.ask(), ("stops", 3, 1, ""))
        self.assertEqual((long.entry((0, 0, ""))[1], len(long)), (5764607523034234876, 479))

    def test_entries_of_all_kinds_of_runs(self):
        words = set()
        for machine, text, runs in all_cases():
            for one in runs:
                book = Book(machine, text)
                self.assertEqual(book.ask(one), runs[one].end)
                for met in book:
                    self.assertEqual(book.entry(met), runs[met].entry())
                    words.add(runs[met].word)
        self.assertEqual(words, {"falls", "stops", "endless"})

    def test_entries_are_like_excursions(self):
        for n in range(7):
            book = Book(twice(), "a" * n)
            book.ask()
            for one in book:
                end, steps, rise, low, high, said = excursion(twice(), "a" * n, one, 10000)
                self.assertEqual(book.entry(one), (end, steps, rise, low, high, len(said)))

    def test_endless_entries(self):
        # The head goes to the right end, leaves a symbol, and then moves between the last two places.
        rules = [(0, sign, "", 0, 1, "keep", "", "k") for sign in "<a"] + [
            (0, ">", "", 1, 0, "push", "x", ""), (1, ">", "x", 2, -1, "keep", "", ""),
            (2, "a", "x", 1, 1, "keep", "", "")]
        book = Book(Machine("a", 3, rules), "aaaa")
        self.assertEqual(book.ask(), ("endless",))
        self.assertEqual(book.closing, (1, 5, "x"))
        self.assertEqual(book.entry((0, 0, "")), (("endless",), None, None, 0, 5, None))
        self.assertEqual(book.entry((0, 3, "")), (("endless",), None, None, 3, 5, None))
        self.assertEqual(book.entry((1, 5, "x")), (("endless",), None, None, 4, 5, None))
        self.assertEqual(book.entry((2, 4, "x")), (("endless",), None, None, 4, 5, None))
        self.assertEqual(book.answer(), "endless")

    def test_runs_of_more_steps_than_can_be_walked(self):
        for n in (100, 400):
            book = Book(twice(), "a" * n)
            self.assertEqual(book.ask(), ("stops", 3, 1, ""))
            entry = book.entry((0, 0, ""))
            self.assertEqual(entry[1:], (5 * 2 ** n - 4, n, 0, n + 1, 2 ** n))
            self.assertLessEqual(len(book.worked) + len(book.recalled), meetings_at_most(twice(), n))

    def test_entries_are_tuples(self):
        book = Book(pairs(), "ab")
        self.assertIs(type(book.ask([0, 0, ""])), tuple)
        for value in (book.worked, book.recalled, book.worked[0], book.entry([0, 0, ""]), book.entry([0, 0, ""])[0]):
            self.assertIs(type(value), tuple)
        self.assertTrue(all(type(one) is tuple for one in book))


class KeptRunTest(unittest.TestCase):
    def test_before_the_first_ask(self):
        machine = pairs()
        book = Book(machine=machine, text="ab")
        self.assertIs(book.machine, machine)
        self.assertEqual((book.text, book.worked, book.recalled, book.closing), ("ab", (), (), None))
        self.assertEqual((len(book), list(book), book.entry((0, 0, "")), (0, 0, "") in book), (0, [], None, False))

    def test_asks_step_by_step(self):
        rng = random.Random(53)
        closings = recalls = 0
        for machine, text, runs in all_cases():
            book, known, order = Book(machine, text), {}, []
            surfaces = all_surfaces(machine, text)
            asked = [START_SURFACE] + [rng.choice(surfaces) for _ in range(6)]
            rng.shuffle(asked)
            for one in asked:
                worked, recalled, closing = naive_ask(machine, text, known, one)
                self.assertEqual(book.ask(one), runs[one].end)
                self.assertEqual((book.worked, book.recalled, book.closing), (worked, recalled, closing))
                order.extend(worked)
                self.assertEqual(list(book), order)
                self.assertEqual(len(book), len(order))
                closings += closing is not None
                recalls += len(recalled)
                for each in surfaces:
                    self.assertEqual(book.entry(each), known.get(each))
                    self.assertEqual(each in book, each in known)
                    self.assertEqual(list(each) in book, each in known)
        self.assertGreater(closings, 50)
        self.assertGreater(recalls, 500)

    def test_a_surface_that_has_an_entry_is_only_recalled(self):
        book = Book(twice(), "aaa")
        book.ask()
        before = list(book)
        for one in before:
            self.assertEqual(book.ask(surface=one), book.entry(one)[0])
            self.assertEqual((book.worked, book.recalled, book.closing), ((), (one,), None))
        self.assertEqual(list(book), before)

    def test_the_bill(self):
        for machine, text, runs in all_cases():
            book = Book(machine, text)
            book.ask()
            run = runs[START_SURFACE]
            met = []
            for standing in run.standings:
                if surface(standing) not in met:
                    met.append(surface(standing))
            self.assertEqual(book.worked, tuple(met))
            self.assertLessEqual(len(book.worked) + len(book.recalled), meetings_at_most(machine, len(text)))
            deeds = []
            for state, place, top in met:
                deeds.extend(rule[5] for rule in rules_at(machine, text, (state, place, (top,) if top else ())))
            if run.word == "stops":
                height = len(run.standings[-1][2])
                self.assertIsNone(book.closing)
            else:
                height = self.closing_height(run, book.closing)
            self.assertEqual(len(book.recalled), deeds.count("push") - deeds.count("pop") - height)

    def closing_height(self, run, closing):
        """The height of the standing at which the closing surface is met again."""
        return len(run.standings[run.T][2]) if surface(run.standings[run.T]) == closing else None


class LookingTest(unittest.TestCase):
    def test_in_is_false_for_what_is_no_surface(self):
        book = Book(twice(), "aa")
        book.ask()
        for one in wrong_surfaces(twice(), "aa") + ["", None, 1.5, object()]:
            with self.subTest(one):
                self.assertIs(one in book, False)
        self.assertIs((0, 0, "") in book, True)
        self.assertIs([0, 0, ""] in book, True)
        self.assertIs((2, 0, "") in book, False)

    def test_looking_works_nothing_out(self):
        book = Book(pairs(), "ab")
        book.ask((2, 2, "a"))
        told = (book.worked, book.recalled, book.closing)
        self.assertIsNone(book.entry((0, 0, "")))
        self.assertEqual((len(book), list(book)), (1, [(2, 2, "a")]))
        self.assertEqual((book.worked, book.recalled, book.closing), told)
        self.assertEqual(book.entry(surface=[2, 2, "a"]), (("falls", 2, 3), 1, 0, 2, 2, 0))

    def test_iteration_can_begin_anew(self):
        book = Book(pairs(), "ab")
        book.ask((2, 3, ""))
        book.ask()
        order = [(2, 3, ""), (3, 3, ""), (0, 0, ""), (1, 1, ""), (1, 2, "a")]
        self.assertEqual([list(book), list(book)], [order, order])
        self.assertEqual([one for one in book for _ in book][::5], order)


class AnswerTest(unittest.TestCase):
    def test_answers(self):
        for text, expected in (("", "yes"), ("ab", "yes"), ("aabb", "yes"), ("aab", "no"), ("ba", "no"), ("abb", "no")):
            self.assertEqual(answer(pairs(), text), expected)
            self.assertEqual(Book(pairs(), text).answer(), expected)
            self.assertEqual(answer(machine=~pairs(), text=text), "no" if expected == "yes" else "yes")
        self.assertEqual(answer(twice(), "a" * 400), "yes")

    def test_answers_of_drawn_machines(self):
        told = set()
        for machine, text, runs in all_cases():
            run = runs[START_SURFACE]
            expected = run.word
            if expected == "stops":
                expected = "yes" if run.end[1] in machine.yes else "no"
            self.assertEqual(answer(machine, text), expected)
            told.add(expected)
        self.assertEqual(told, {"yes", "no", "endless"})

    def test_the_start_surface_is_asked_for_only_if_it_has_no_entry(self):
        book = Book(pairs(), "ab")
        book.ask((2, 3, ""))
        self.assertEqual(book.answer(), "yes")
        self.assertEqual(book.worked, ((0, 0, ""), (1, 1, ""), (1, 2, "a")))
        self.assertEqual(book.recalled, ((2, 3, ""),))
        book.ask((3, 1, "a"))
        told = (book.worked, book.recalled, book.closing)
        self.assertEqual(book.answer(), "yes")
        self.assertEqual((book.worked, book.recalled, book.closing), told)


class ErrorsTest(unittest.TestCase):
    def test_texts_come_before_guesses(self):
        for function in (Book, answer):
            for machine in (pairs(), guessing()):
                for text in WRONG_TEXTS:
                    with self.subTest(text=text), self.assertRaises(BadText) as caught:
                        function(machine, text)
                    self.assertIs(caught.exception.text, text)
            with self.assertRaises(Guesses) as caught:
                function(guessing(), "ab")
            self.assertEqual(caught.exception.key, (0, "<", ""))

    def test_bad_surfaces_change_nothing(self):
        book = Book(twice(), "aa")
        book.ask()
        told = (book.worked, book.recalled, book.closing, list(book))
        for one in wrong_surfaces(twice(), "aa"):
            for function in (book.ask, book.entry):
                with self.subTest(one), self.assertRaises(BadSurface) as caught:
                    function(one)
                self.assertIs(caught.exception.surface, one)
                self.assertEqual((book.worked, book.recalled, book.closing, list(book)), told)


if __name__ == "__main__":
    unittest.main()
