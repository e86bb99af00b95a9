"""Points 33 to 37: rows, papers, and the judge of rows."""

import random
import unittest

from pilerecall.books import Book
from pilerecall.errors import BadSurface, BadText, Guesses
from pilerecall.machines import Machine
from pilerecall.rows import paper, row_fault, rows
from tests.helpers import all_surfaces, guessing, pairs, rules_at, twice
from tests.test_books import all_cases
from tests.test_running import wrong_surfaces
from tests.test_standings import WRONG_TEXTS


def rule_at(machine, text, one):
    """The rule that fits a surface, or None."""
    state, place, top = one
    return (rules_at(machine, text, (state, place, (top,) if top else ())) or [None])[0]


def naive_leaned(machine, text, one, row_for):
    """The surfaces of point 34, the pushed one first. row_for gives the row of a surface, or None."""
    rule = rule_at(machine, text, one)
    if rule is None or rule[5] == "pop":
        return []
    after, move, deed, symbol = rule[3:7]
    led = (after, one[1] + move, one[2] if deed == "keep" else symbol)
    if deed != "push" or row_for(led) is None or row_for(led)[1][0] != "falls":
        return [led]
    return [led, (row_for(led)[1][1], row_for(led)[1][2], one[2])]


def naive_paper(book, surface):
    """The rows of point 34, gathered until no more come to them."""
    def row_for(one):
        return (one,) + book.entry(one)

    found = {surface}
    while True:
        more = {two for one in found for two in naive_leaned(book.machine, book.text, one, row_for)}
        if more <= found:
            return tuple(sorted(row_for(one) for one in found))
        found |= more


def naive_agrees(row, rule, leaned):
    """Point 36, part by part."""
    surface, end, steps, rise, low, high, letters = row
    p, place = surface[1], None
    if rule is None:
        return tuple(row[1:]) == (("stops",) + surface, 0, 0, p, p, 0)
    after, move, deed, _, said = rule[3:]
    place, size = p + move, len(said)
    if deed == "pop":
        return tuple(row[1:]) == (("falls", after, place), 1, 0, p, p, size)
    lows, highs = [one[4] for one in leaned], [one[5] for one in leaned]
    if deed == "push" and leaned[0][1][0] == "endless":
        expected = ("endless",)
    else:
        expected = leaned[-1][1]
    if tuple(end) != tuple(expected):
        return False
    if expected[0] == "endless":
        return low <= p and all(low <= one for one in lows) and high >= p and all(high >= one for one in highs)
    if low != min([p] + lows) or high != max([p] + highs):
        return False
    if steps != 1 + sum(one[2] for one in leaned) or letters != size + sum(one[6] for one in leaned):
        return False
    if deed != "push":
        return rise == leaned[0][3]
    if leaned[0][1][0] == "stops":
        return rise == leaned[0][3] + 1
    return rise == max(leaned[1][3], leaned[0][3] + 1)


def naive_fault(machine, text, items):
    """The second part of point 35, for rows of right form, none of them twice."""
    table = {row[0]: row for row in items}
    for index, row in enumerate(items):
        surfaces = naive_leaned(machine, text, row[0], table.get)
        leaned = [table.get(one) for one in surfaces]
        if None in leaned:
            return (index, "lacking")
        if not naive_agrees(row, rule_at(machine, text, row[0]), leaned):
            return (index, "wrong")
    return None


def full_book(machine, text):
    """A book of all surfaces of a machine and a text."""
    book = Book(machine, text)
    for one in all_surfaces(machine, text):
        book.ask(one)
    return book


def lists(value):
    """The value with lists in the place of tuples."""
    return [lists(part) for part in value] if isinstance(value, tuple) else value


def changed(rng, machine, text, row):
    """The row with one or two of its parts changed, still of right form."""
    row = list(row)
    for _ in range(rng.choice([1, 1, 2])):
        at = rng.randint(1, 6)
        if at == 1 or row[at] is None:
            states, places = range(machine.states), range(len(text) + 2)
            stop = ("stops", rng.choice(states), rng.choice(places), rng.choice(("",) + machine.symbols))
            ends = [stop, ("endless",)] + [("falls", rng.choice(states), rng.choice(places))] * (row[0][2] != "")
            row[1] = rng.choice(ends)
            for part in (2, 3, 6):
                if row[1] == ("endless",):
                    row[part] = None
                elif row[part] is None:
                    row[part] = rng.randint(0, 4)
        else:
            row[at] = max(0, row[at] + rng.choice([-1, 1, 1, 5]))
    return tuple(row)


class RowsTest(unittest.TestCase):
    def test_rows_in_the_order_of_the_book(self):
        book = Book(pairs(), "ab")
        self.assertEqual(rows(book), ())
        book.ask((2, 3, ""))
        book.ask()
        self.assertEqual(rows(book)[0], ((2, 3, ""), ("stops", 3, 3, ""), 1, 0, 3, 3, 0))
        self.assertEqual([row[0] for row in rows(book)], [(2, 3, ""), (3, 3, ""), (0, 0, ""), (1, 1, ""), (1, 2, "a")])
        self.assertEqual([row[0] for row in rows(book)], list(book))

    def test_rows_of_drawn_machines(self):
        for machine, text, _ in all_cases():
            book = Book(machine, text)
            book.ask((0, 0, machine.symbols[0] if machine.symbols else ""))
            book.ask()
            told = rows(book)
            self.assertIs(type(told), tuple)
            self.assertEqual(told, tuple((one,) + book.entry(one) for one in book))


class PaperTest(unittest.TestCase):
    def test_papers_of_drawn_machines(self):
        endless = 0
        for machine, text, runs in all_cases():
            book = full_book(machine, text)
            for one in runs:
                told = paper(book, one)
                self.assertIs(type(told), tuple)
                self.assertEqual(told, naive_paper(book, one))
                self.assertIn((one,) + book.entry(one), told)
                self.assertIsNone(row_fault(machine, text, told))
                endless += runs[one].word == "endless"
        self.assertGreater(endless, 100)

    def test_a_row_that_leans_on_itself(self):
        machine = Machine("a", 2, [(0, "<", "", 0, 0, "keep", "", "k"), (1, "<", "", 1, 0, "push", "A", "")])
        book = Book(machine, "a")
        self.assertEqual(paper(book), (((0, 0, ""), ("endless",), None, None, 0, 0, None),))
        self.assertEqual(book.closing, (0, 0, ""))
        self.assertIsNone(row_fault(machine, "a", paper(book)))

    def test_what_is_lacking_is_asked_for(self):
        book = Book(twice(), "aaa")
        book.ask((3, 2, "x"))
        other = Book(twice(), "aaa")
        other.ask((3, 2, "x"))
        other.ask((0, 3, "y"))
        told = paper(book, [0, 3, "y"])
        self.assertEqual((book.worked, book.recalled, list(book)), (other.worked, other.recalled, list(other)))
        self.assertEqual(told, naive_paper(other, (0, 3, "y")))
        kept = (book.worked, book.recalled, book.closing)
        self.assertEqual(paper(book, surface=(3, 2, "x")), (((3, 2, "x"), ("falls", 1, 2), 1, 0, 2, 2, 0),))
        self.assertEqual((book.worked, book.recalled, book.closing), kept)
        self.assertEqual(paper(book), naive_paper(full_book(twice(), "aaa"), (0, 0, "")))
        self.assertEqual(book.worked[0], (0, 0, ""))

    def test_long_runs(self):
        book = Book(twice(), "a" * 400)
        told = paper(book)
        self.assertEqual(set(row[0] for row in told), set(book))
        self.assertEqual(told[0][2], 5 * 2 ** 400 - 4)
        self.assertIsNone(row_fault(twice(), "a" * 400, told))

    def test_bad_surfaces(self):
        book = Book(twice(), "aa")
        for one in wrong_surfaces(twice(), "aa"):
            with self.subTest(one), self.assertRaises(BadSurface) as caught:
                paper(book, one)
            self.assertIs(caught.exception.surface, one)
            self.assertEqual((len(book), book.recalled), (0, ()))


class FormTest(unittest.TestCase):
    def setUp(self):
        self.machine = twice()
        self.text = "aa"
        self.right = list(paper(Book(self.machine, self.text)))

    def fault(self, items):
        return row_fault(self.machine, self.text, items)

    def test_rows_without_fault(self):
        self.assertIsNone(self.fault(()))
        self.assertIsNone(self.fault([]))
        self.assertIsNone(self.fault(self.right))
        self.assertIsNone(self.fault(tuple(self.right[::-1])))
        passed = lists(tuple(self.right))
        kept = lists(tuple(self.right))
        self.assertIsNone(self.fault(passed))
        self.assertEqual(passed, kept)

    def test_items_that_are_no_rows(self):
        stops = ((0, 1, ""), ("stops", 3, 1, ""), 15, 2, 1, 3, 4)
        falls = ((0, 3, "x"), ("falls", 1, 3), 1, 0, 3, 3, 1)
        endless = ((0, 1, ""), ("endless",), None, None, 0, 1, None)
        self.assertEqual([self.fault([one]) for one in (stops, falls, endless)],
                         [(0, "lacking"), None, (0, "lacking")])
        wrong = [None, 7, True, "", "sevenxx", b"", 1.5, object(), {}, {"a": 1}, (), [], ((),), stops[:6], stops + (0,)]
        wrong += [(1, 2, 3, 4, 5, 6, 7), ("",) * 7, (None,) * 7, ([],) * 7]
        wrong += [(one,) + falls[1:] for one in wrong_surfaces(self.machine, self.text)]
        bad_numbers = [-1, True, False, 1.0, "1", None, (), [1]]
        wrong += [row[:at] + (bad,) + row[at + 1:] for row in (stops, falls) for at in range(2, 7) for bad in bad_numbers]
        wrong += [endless[:at] + (bad,) + endless[at + 1:] for at in (4, 5) for bad in bad_numbers]
        wrong += [endless[:at] + (bad,) + endless[at + 1:] for at in (2, 3, 6) for bad in (0, False, 1, "", ())]
        ends = [None, (), [], "falls", ("falls",), ("falls", 1), ("falls", 1, 3, ""), ("falls", 4, 3), ("falls", -1, 3),
                ("falls", 1, 4), ("falls", 1, -1), ("falls", True, 3), ("falls", 1, True), ("falls", 1.0, 3),
                ("falls", None, 3), ("falls", 1, "3"), ("fall", 1, 3), (None, 1, 3), (["falls"], 1, 3), ("stops", 1, 3),
                ("stops", 1, 3, "q"), ("stops", 1, 3, None), ("stops", 4, 3, "x"), ("stops", 1, 4, "x"),
                ("stops", 1, 3, "x", 0), ("stops",), ("Stops", 1, 3, "x"), ("stops", False, 3, "x"), ("endless",),
                ("endless", None), ("goes on",), (("falls", 1, 3),), object(), 0, {}]
        wrong += [(falls[0], end) + falls[2:] for end in ends]
        wrong += [(endless[0], end) + endless[2:] for end in (("stops", 3, 1, ""), (), ("endless", 0), (None,), None)]
        # A surface with the empty top never falls.
        wrong += [((0, 1, ""), ("falls", 1, 1)) + stops[2:]]
        for one in wrong:
            with self.subTest(one):
                self.assertEqual(self.fault([one]), (0, "form"))
                self.assertEqual(self.fault(self.right + [one]), (len(self.right), "form"))
                self.assertEqual(self.fault((falls, one, falls)), (1, "form"))

    def test_values_that_compare_in_their_own_way(self):
        class Same:
            def __eq__(self, other):
                return True

        row = ((0, 3, "x"), ("falls", 1, 3), 1, 0, 3, 3, 1)
        for at in range(7):
            self.assertEqual(self.fault([row[:at] + (Same(),) + row[at + 1:]]), (0, "form"))
        self.assertEqual(self.fault([row[:1] + ((Same(), 1, 3),) + row[2:]]), (0, "form"))
        self.assertEqual(self.fault([Same()]), (0, "form"))

    def test_twice(self):
        row = self.right[3]
        self.assertEqual(self.fault(self.right + [row]), (len(self.right), "twice"))
        self.assertEqual(self.fault([row, lists(row)]), (1, "twice"))
        other = (row[0], ("endless",), None, None, 0, 0, None)
        self.assertEqual(self.fault([row, other, other]), (1, "twice"))

    def test_the_order_of_the_faults(self):
        lacking = ((0, 1, ""), ("stops", 3, 1, ""), 15, 2, 1, 3, 4)
        wrong = ((0, 3, "x"), ("falls", 1, 3), 2, 0, 3, 3, 1)
        self.assertEqual(self.fault([lacking, wrong]), (0, "lacking"))
        self.assertEqual(self.fault([wrong, lacking]), (0, "wrong"))
        self.assertEqual(self.fault([lacking, wrong, None, lacking]), (2, "form"))
        self.assertEqual(self.fault([lacking, wrong, lacking, None]), (2, "twice"))
        # An item that is no row does not count as an earlier one.
        self.assertEqual(self.fault([wrong[:6] + (-1,), wrong]), (0, "form"))

    def test_lacking_comes_before_wrong_in_a_row(self):
        # The row leans on (3, 2, "x"), which is not there, and is wrong besides.
        row = ((2, 3, "x"), ("falls", 1, 2), 9, 9, 9, 9, 9)
        self.assertEqual(self.fault([row]), (0, "lacking"))
        self.assertEqual(self.fault([row, ((3, 2, "x"), ("falls", 1, 2), 1, 0, 2, 2, 0)]), (0, "wrong"))

    def test_the_return_is_that_of_the_claimed_landing(self):
        push = next(row for row in self.right if row[0] == (0, 2, "x"))
        rest = [row for row in self.right if row != push]
        at = [row[0] for row in rest].index((0, 3, "x"))
        # The pushed row claims another landing, whose row is not there: the row that pushes comes first.
        claim = rest[at][:1] + (("falls", 3, 0),) + rest[at][2:]
        self.assertEqual(self.fault([push] + rest[:at] + [claim] + rest[at + 1:]), (0, "lacking"))
        # It claims to stop: then the row that pushes leans on it alone.
        claim = rest[at][:1] + (("stops", 3, 0, ""), 5, 2, 1, 3, 2)
        told = (push[0], ("stops", 3, 0, ""), 6, 3, 1, 3, 2)
        self.assertEqual(self.fault([told, claim]), (1, "wrong"))


class AgreementTest(unittest.TestCase):
    def test_books_have_no_fault(self):
        for machine, text, _ in all_cases():
            book = Book(machine, text)
            book.ask()
            self.assertIsNone(row_fault(machine, text, rows(book)))
            self.assertIsNone(row_fault(machine, text, rows(full_book(machine, text))))

    def test_a_row_taken_out_of_a_paper(self):
        for machine, text, runs in all_cases():
            book = full_book(machine, text)
            for one in list(runs)[::7]:
                told = paper(book, one)
                for at in range(len(told)):
                    rest = told[:at] + told[at + 1:]
                    if told[at][0] != one:
                        leaning = [row[0] for row in rest if told[at][0] in naive_leaned(
                            machine, text, row[0], lambda surface: (surface,) + book.entry(surface))]
                        index = [row[0] for row in rest].index(leaning[0])
                        self.assertEqual(row_fault(machine, text, rest), (index, "lacking"))

    def test_changed_rows_beside_a_plain_judge(self):
        rng = random.Random(61)
        found = {}
        for machine, text, runs in all_cases():
            told = list(rows(full_book(machine, text)))
            for _ in range(30):
                items = list(told) if rng.random() < 0.7 else rng.sample(told, rng.randint(1, len(told)))
                rng.shuffle(items)
                for _ in range(rng.choice([0, 1, 1, 1, 2])):
                    at = rng.randrange(len(items))
                    items[at] = changed(rng, machine, text, items[at])
                fault = row_fault(machine, text, items)
                self.assertEqual(fault, naive_fault(machine, text, items))
                word = fault and fault[1]
                found[word] = found.get(word, 0) + 1
                if fault is None:
                    self.check_truth(items, runs)
        self.assertEqual(set(found), {None, "wrong", "lacking"})
        self.assertTrue(all(number > 100 for number in found.values()), found)

    def check_truth(self, items, runs):
        """What point 37 says of sequences without fault."""
        for row in items:
            right = runs[row[0]].entry()
            if row[1] == ("endless",):
                self.assertEqual(right[0], ("endless",))
                self.assertTrue(row[4] <= right[3] and right[4] <= row[5])
            else:
                self.assertEqual(tuple(row[1:]), right)

    def test_each_part_of_each_row_counts(self):
        # In a paper each number of each row that is changed by one is found, there or where it is leaned on.
        for machine, text in ((twice(), "aa"), (pairs(), "aabb")):
            told = paper(Book(machine, text))
            for index, row in enumerate(told):
                for at in range(2, 7):
                    for by in (-1, 1):
                        if row[at] + by >= 0:
                            other = row[:at] + (row[at] + by,) + row[at + 1:]
                            items = told[:index] + (other,) + told[index + 1:]
                            self.assertEqual(row_fault(machine, text, items), naive_fault(machine, text, items))
                            self.assertEqual(row_fault(machine, text, items)[1], "wrong")

    def test_endless_rows_may_tell_of_more_places(self):
        machine = Machine("a", 3, [(0, "<", "", 1, 1, "keep", "", ""), (1, "a", "", 2, 0, "keep", "", ""),
                                   (2, "a", "", 1, 0, "keep", "", "")])
        told = paper(Book(machine, "aaa"))
        self.assertEqual([row[4:6] for row in told], [(0, 1), (1, 1), (1, 1)])
        for lows, highs, fault in (
            ((0, 0, 0), (9, 9, 9), None),
            ((0, 1, 1), (3, 2, 2), None),
            ((0, 0, 1), (3, 3, 3), (2, "wrong")),
            ((0, 1, 1), (3, 3, 2), (2, "wrong")),
            ((1, 1, 1), (1, 1, 1), (0, "wrong")),
            ((0, 2, 2), (5, 5, 5), (1, "wrong")),
            ((0, 1, 1), (0, 1, 1), (0, "wrong")),
            ((0, 0, 0), (1, 0, 0), (1, "wrong")),
        ):
            items = [row[:4] + (low, high, None) for row, low, high in zip(told, lows, highs)]
            with self.subTest(lows=lows, highs=highs):
                self.assertEqual(row_fault(machine, "aaa", items), fault)

    def test_a_claim_that_carries_itself(self):
        # The run stops at once, so no row of an endless run can stand beside the true one.
        machine = Machine("a", 2, [(0, "<", "", 1, 0, "keep", "", "")])
        right = [((0, 0, ""), ("stops", 1, 0, ""), 1, 0, 0, 0, 0), ((1, 0, ""), ("stops", 1, 0, ""), 0, 0, 0, 0, 0)]
        self.assertIsNone(row_fault(machine, "", right))
        endless = [(row[0], ("endless",), None, None, 0, 0, None) for row in right]
        self.assertEqual(row_fault(machine, "", endless), (1, "wrong"))
        self.assertEqual(row_fault(machine, "", [endless[0], right[1]]), (0, "wrong"))


class ErrorsTest(unittest.TestCase):
    def test_texts_come_before_guesses(self):
        for machine in (pairs(), guessing()):
            for text in WRONG_TEXTS:
                with self.subTest(text=text), self.assertRaises(BadText) as caught:
                    row_fault(machine, text, [None])
                self.assertIs(caught.exception.text, text)
        with self.assertRaises(Guesses) as caught:
            row_fault(machine=guessing(), text="ab", rows=[None])
        self.assertEqual(caught.exception.key, (0, "<", ""))


if __name__ == "__main__":
    unittest.main()
