"""Points 31, 32 and 26: how often surfaces are met and rules are used."""

import unittest

from pilerecall.books import Book
from pilerecall.loops import loop
from pilerecall.machines import Machine
from pilerecall.profiles import counts, uses
from pilerecall.prints import letters_before
from tests.helpers import TWICE_RULES, pairs, rules_at, sign_at, surface, twice
from tests.naive import NaiveRun
from tests.test_books import START_SURFACE, all_cases


def items(things):
    """How often each thing stands in a list, in ascending order."""
    numbers = {}
    for thing in things:
        numbers[thing] = numbers.get(thing, 0) + 1
    return tuple(sorted(numbers.items()))


def naive_profile(machine, text, run, told):
    """Both parts of a profile, from the standings of a run; told makes lists of things from standings."""
    if run.word == "stops":
        return items(told(machine, text, run.standings)), None
    return (
        items(told(machine, text, run.standings[: run.t])),
        items(told(machine, text, run.standings[run.t : run.T])),
    )


def surfaces(machine, text, standings):
    return [surface(one) for one in standings]


def keys(machine, text, standings):
    """The keys of the rules that fit standings, looked for one by one."""
    return [rule[:3] for one in standings for rule in rules_at(machine, text, one)]


def returning(grows):
    """Like twice, but goes back to the beginning in the end, and may leave a symbol on the stack each time."""
    rules = list(TWICE_RULES)
    rules += [(3, "a", "", 4, -1, "keep", "", "r"), (3, ">", "", 4, -1, "keep", "", "r")]
    if grows:
        # What lies on z is done as on the empty stack.
        rules += [rule[:2] + ("z",) + rule[3:] for rule in rules if rule[2] == ""]
        rules += [(4, "<", top, 0, 0, "push", "z", "") for top in ("", "z")]
    else:
        rules.append((4, "<", "", 0, 0, "keep", "", ""))
    return Machine("a", 5, rules)


class SmallRunsTest(unittest.TestCase):
    def test_examples(self):
        before = tuple((one, 1) for one in ((0, 0, ""), (1, 1, ""), (1, 2, "a"), (2, 3, ""), (3, 3, "")))
        self.assertEqual(counts(Book(pairs(), "ab")), (before, None))
        told = tuple((one, 1) for one in ((0, "<", ""), (1, "a", ""), (1, "b", "a"), (2, ">", "")))
        self.assertEqual(uses(Book(pairs(), "ab")), (told, None))

    def test_drawn_runs(self):
        kinds = {"stops": 0, "level": 0, "growing": 0, "at once": 0, "twice": 0}
        for machine, text, runs in all_cases():
            run = runs[START_SURFACE]
            book = Book(machine, text)
            told = counts(book)
            self.assertEqual(told, naive_profile(machine, text, run, surfaces))
            self.assertEqual(uses(book), naive_profile(machine, text, run, keys))
            kind = "stops"
            if run.word == "endless":
                kind = "growing" if loop(book)[4] else "level"
                kinds["at once"] += run.t == 0
            kinds[kind] += 1
            kinds["twice"] += any(number > 1 for _, number in told[0])
        self.assertTrue(all(kinds.values()), kinds)

    def test_a_run_that_makes_no_step(self):
        book = Book(Machine("a", 1, []), "aa")
        self.assertEqual(counts(book), ((((0, 0, ""), 1),), None))
        self.assertEqual(uses(book), ((), None))

    def test_a_round_that_begins_at_once(self):
        book = Book(Machine("a", 1, [(0, "<", "", 0, 0, "keep", "", "")]), "")
        self.assertEqual(counts(book), ((), (((0, 0, ""), 1),)))
        self.assertEqual(uses(book), ((), (((0, "<", ""), 1),)))

    def test_a_pushed_surface_that_is_the_return_too(self):
        # At (1, 0, "A") another A is pushed; it falls and lands at the surface that was pushed.
        rules = [(0, "<", "", 1, 0, "push", "B", ""), (1, "<", "B", 2, 0, "push", "A", ""),
                 (2, "<", "A", 3, 0, "push", "A", ""), (3, "<", "A", 3, 0, "pop", "", "")]
        book = Book(Machine("a", 4, rules), "")
        self.assertEqual(dict(counts(book)[0])[(3, 0, "A")], 2)
        self.assertEqual(dict(uses(book)[0])[(3, "<", "A")], 2)

    def test_tuples_in_ascending_order(self):
        for told in (counts(Book(twice(), "aa")), uses(Book(twice(), "aa"))):
            self.assertIs(type(told), tuple)
            self.assertIs(type(told[0]), tuple)
            self.assertTrue(all(type(one) is tuple and type(one[0]) is tuple for one in told[0]))
            self.assertEqual(list(told[0]), sorted(told[0]))


class LongRunsTest(unittest.TestCase):
    def test_a_run_that_stops(self):
        for n in (61, 90, 400):
            book = Book(twice(), "a" * n)
            before, turn = counts(book)
            self.assertIsNone(turn)
            self.assertEqual(sum(number for _, number in before), 5 * 2 ** n - 4 + 1)
            self.assertEqual({one for one, _ in before}, set(book))
            # Each letter is gone over twice as often as the one before it.
            for place in range(2, n + 2):
                met = [number for (state, at, _), number in before if (state, at) == (0, place)]
                self.assertEqual(sum(met), 2 ** (place - 1))
            told = dict(uses(book)[0])
            self.assertEqual(sum(told.values()), 5 * 2 ** n - 4)
            self.assertEqual(told[(0, ">", "x")] + told[(0, ">", "y")], 2 ** n)

    def test_rounds_at_one_height_and_on_a_growing_stack(self):
        n = 70
        for grows in (False, True):
            book = Book(returning(grows), "a" * n)
            before, period, *_, growth = loop(book)
            self.assertGreater(period, 2 ** 60)
            self.assertEqual(bool(growth), grows)
            for told in (counts(book), uses(book)):
                self.assertEqual(sum(number for _, number in told[0]), before)
                self.assertEqual(sum(number for _, number in told[1]), period)
                self.assertEqual([list(told[0]), list(told[1])], [sorted(told[0]), sorted(told[1])])
                self.assertTrue(all(number > 0 for part in told for _, number in part))
            said = {rule[:3]: len(rule[7]) for rule in book.machine.rules}
            printed = sum(number * said[key] for key, number in uses(book)[1])
            self.assertEqual(printed, letters_before(book, before + period) - letters_before(book, before))

    def test_rounds_of_small_texts_beside_the_plain_run(self):
        # The same machines as above on texts for which the plain run can be walked.
        for grows in (False, True):
            for n in range(4):
                machine, text = returning(grows), "a" * n
                run = NaiveRun(machine, text, START_SURFACE)
                self.assertEqual(run.word, "endless")
                book = Book(machine, text)
                self.assertEqual(counts(book), naive_profile(machine, text, run, surfaces))
                self.assertEqual(uses(book), naive_profile(machine, text, run, keys))


class AskingTest(unittest.TestCase):
    def test_the_start_surface_is_asked_for_first(self):
        for function in (counts, uses):
            book, other = Book(twice(), "aaa"), Book(twice(), "aaa")
            for one in (book, other):
                one.ask((3, 2, "x"))
                one.ask((0, 3, "y"))
            other.ask()
            function(book)
            self.assertEqual((book.worked, book.recalled, book.closing), (other.worked, other.recalled, other.closing))
            self.assertEqual(list(book), list(other))

    def test_nothing_changes_if_it_has_an_entry(self):
        for function in (counts, uses):
            book = Book(twice(), "aaa")
            book.ask()
            book.ask((3, 2, "x"))
            book.ask((2, 1, "y"))
            kept = (book.worked, book.recalled, book.closing, list(book))
            function(book=book)
            self.assertEqual((book.worked, book.recalled, book.closing, list(book)), kept)


class SignsTest(unittest.TestCase):
    def test_keys_have_the_signs_of_their_places(self):
        book = Book(pairs(), "aabb")
        told = dict(uses(book)[0])
        met = dict(counts(book)[0])
        for (state, place, top), number in met.items():
            key = (state, sign_at("aabb", place), top)
            if book.machine.acts(*key):
                self.assertGreaterEqual(told[key], number)
        self.assertEqual(told[(1, "a", "a")], 1)
        self.assertEqual(told[(2, "b", "a")], 1)


if __name__ == "__main__":
    unittest.main()
