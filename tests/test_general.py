"""Points 1, 2 and 13: what holds for all functions and classes of the interface."""

import copy
import inspect
import unittest

from pilerecall import errors
from pilerecall.bills import edges_at_most, joinings_at_most, meetings_at_most, surfaces_at_most
from pilerecall.books import Book, answer
from pilerecall.compiling import compiled
from pilerecall.deeds import perform, within
from pilerecall.desks import Desk, Trial
from pilerecall.far import first_at, height_of, standing_at, unfold
from pilerecall.floors import floor_told, floors, is_floor
from pilerecall.flows import flow
from pilerecall.grammars import derivation_size, grammar_machine
from pilerecall.library import named, named_text
from pilerecall.likeness import is_likeness, likeness, merged, trimmed
from pilerecall.loops import lasting, loop
from pilerecall.machinenotes import read_machine, write_machine
from pilerecall.machines import Machine
from pilerecall.meaning import meaning
from pilerecall.mirrors import mirrored
from pilerecall.nets import Net
from pilerecall.plainly import plainly, said_plainly
from pilerecall.prices import least_yes, prices, reaches
from pilerecall.prints import letter_at, letters_before, letters_said, said_between
from pilerecall.profiles import counts, uses
from pilerecall.programs import Program
from pilerecall.reading import read_program
from pilerecall.rings import are_ranks, find_ring, is_ring, links, ranks
from pilerecall.rows import paper, row_fault, rows
from pilerecall.runcounts import longest_run, run_counts
from pilerecall.running import excursion, plain_run, trace
from pilerecall.runpapers import paper_edge, paper_fault, paper_run, paper_steps, run_paper
from pilerecall.spelling import spelled
from pilerecall.standings import lifted, moves, step, surface_of
from pilerecall.writing import write_program
from tests.helpers import guessing, pairs, twice

TEXT = "aabb"
TREE = (("main", (("push", "here"), ("if", ("not", ("at", "a")), (("call", "f"),), ()), ("either", (("right",),), ()))),
        ("f", (("while", ("and", ("same",), ("top", "")), (("say", "k"),)),)))


def growing():
    """A plain machine whose run is endless on a growing stack, and prints."""
    rules = [(0, "<", top, 0, 1, "push", "x", "k") for top in ("", "x")]
    rules += [(0, sign, "x", 0, 1, "push", "y", "") for sign in "ab"] + [(0, sign, "y", 0, 1, "swap", "x", "") for sign in "ab"]
    rules += [(0, ">", top, 1, -1, "keep", "", "") for top in ("x", "y")]
    rules += [(1, sign, top, 1, -1, "keep", "", "") for sign in "ab" for top in ("x", "y")]
    rules += [(1, "<", "y", 0, 0, "swap", "x", ""), (1, "<", "x", 0, 0, "keep", "", "")]
    return Machine("ab", 2, rules)


def calls():
    """Calls of all functions and classes, as (function, arguments by name), each with new objects."""
    machine, grow, net = pairs(), growing(), Net(pairs(), TEXT)
    table, lines = floors(net), run_paper(net)
    told = paper(Book(machine, TEXT))
    deeds = (("answer",), ("splice", 1, 0, "a"), ("work",), ("try", (("undo",), ("answer",))), ("undo",))
    tower = (1, 2, ("a", "a"))
    return [
        (Machine, {"letters": "ab", "states": 4, "rules": machine.rules, "yes": (3, 1)}),
        (machine.acts, {"state": 1, "sign": "a", "top": ""}),
        (write_machine, {"machine": machine}),
        (read_machine, {"text": write_machine(machine)}),
        (surface_of, {"standing": tower}),
        (moves, {"machine": guessing(), "text": "ab", "standing": (0, 0, ("Z9",))}),
        (moves, {"machine": guessing(), "text": "ab", "standing": (0, 0, ())}),
        (step, {"machine": machine, "text": TEXT, "standing": tower}),
        (lifted, {"standing": tower, "below": ("b", "c")}),
        (plain_run, {"machine": machine, "text": TEXT, "limit": 5, "start": tower}),
        (excursion, {"machine": machine, "text": TEXT, "surface": (1, 3, "a"), "limit": 100}),
        (excursion, {"machine": machine, "text": TEXT, "surface": (2, 1, "a"), "limit": 100}),
        (Book(machine, TEXT).ask, {"surface": (1, 3, "a")}),
        (asked(grow, TEXT).entry, {"surface": (0, 0, "")}),
        (asked(machine, TEXT).answer, {}),
        (answer, {"machine": machine, "text": TEXT}),
        (surfaces_at_most, {"machine": machine, "length": 7}),
        (meetings_at_most, {"machine": machine, "length": 7}),
        (edges_at_most, {"machine": machine, "length": 7}),
        (joinings_at_most, {"machine": machine, "length": 7}),
        (lasting, {"book": Book(grow, TEXT), "surface": (0, 0, "")}),
        (loop, {"book": Book(grow, TEXT)}),
        (standing_at, {"book": Book(grow, TEXT), "steps": 10 ** 30}),
        (height_of, {"pieces": ((("a", "b"), 10 ** 30), (("c",), 1))}),
        (unfold, {"pieces": ((("a", "b"), 3), (("c",), 1))}),
        (first_at, {"book": Book(machine, TEXT), "place": 3}),
        (letters_said, {"book": Book(twice(), "aa")}),
        (letters_before, {"book": Book(grow, TEXT), "steps": 10 ** 30}),
        (letter_at, {"book": Book(grow, TEXT), "index": 10 ** 30}),
        (said_between, {"book": Book(grow, TEXT), "first": 10 ** 30, "last": 10 ** 30 + 5}),
        (counts, {"book": Book(grow, TEXT)}),
        (uses, {"book": Book(grow, TEXT)}),
        (rows, {"book": asked(machine, TEXT)}),
        (paper, {"book": Book(machine, TEXT), "surface": (1, 1, "")}),
        (row_fault, {"machine": machine, "text": TEXT, "rows": told}),
        (row_fault, {"machine": machine, "text": TEXT, "rows": told[1:]}),
        (Desk(machine, TEXT).answer, {}),
        (perform, {"desk": Desk(machine, TEXT), "deeds": deeds}),
        (within, {"trial": Trial(Desk(machine, TEXT)), "deeds": deeds}),
        (Program, {"procedures": TREE}),
        (read_program, {"text": write_program(Program(TREE))}),
        (write_program, {"program": Program(TREE)}),
        (meaning, {"program": Program(TREE), "text": TEXT, "limit": 100, "choices": (1, 0)}),
        (flow, {"program": Program(TREE)}),
        (compiled, {"program": Program(TREE), "letters": "ab"}),
        (mirrored, {"machine": machine}),
        (spelled, {"machine": machine, "code": (("a", "ab"), ("z", "b"))}),
        (trimmed, {"machine": machine}),
        (is_likeness, {"machine": machine, "classes": (0, 1, 2, 3)}),
        (likeness, {"machine": machine}),
        (merged, {"machine": machine}),
        (net.answer, {}),
        (prices, {"net": net}),
        (reaches, {"net": net}),
        (least_yes, {"net": net}),
        (run_paper, {"net": net}),
        (paper_fault, {"machine": machine, "text": TEXT, "lines": lines}),
        (paper_edge, {"machine": machine, "text": TEXT, "lines": lines}),
        (paper_steps, {"machine": machine, "text": TEXT, "lines": lines}),
        (paper_run, {"machine": machine, "text": TEXT, "lines": lines, "limit": 100}),
        (floors, {"net": net}),
        (is_floor, {"machine": machine, "text": TEXT, "table": table}),
        (floor_told, {"machine": machine, "text": TEXT, "table": table}),
        (links, {"net": net}),
        (is_ring, {"net": Net(guessing(), "ab"), "ring": ((0, 0, ""), (1, 1, ""))}),
        (find_ring, {"net": Net(guessing(), "ab")}),
        (ranks, {"net": net}),
        (are_ranks, {"net": net, "ranked": ranks(net)}),
        (run_counts, {"net": net}),
        (longest_run, {"net": net}),
        (grammar_machine, {"letters": "ab", "grammar": (("S", "aSb"), ("S", ""))}),
        (derivation_size, {"letters": "ab", "grammar": (("S", "aSb"), ("S", "")), "text": TEXT}),
        (named_text, {"name": "power"}),
        (named, {"name": "power"}),
        (plainly, {"name": "power", "text": TEXT}),
        (said_plainly, {"name": "chant", "text": TEXT, "first": 3, "last": 9}),
    ]


def asked(machine, text):
    """A book whose start surface has been asked for."""
    book = Book(machine, text)
    book.ask()
    return book


def as_lists(value):
    """The same with lists for tuples, at every level."""
    return [as_lists(part) for part in value] if isinstance(value, tuple) else value


def by_order(function, given):
    """A call with all arguments by position, but for those that have to be named."""
    parameters = inspect.signature(function).parameters
    first = [given[name] for name in parameters if name in given and parameters[name].kind != inspect.Parameter.KEYWORD_ONLY]
    named_ones = {name: given[name] for name in given if parameters[name].kind == inspect.Parameter.KEYWORD_ONLY}
    return function(*first, **named_ones)


def plain_form(value):
    """A value that can be compared and looked through: objects by the attributes that the interface lists."""
    if isinstance(value, Machine):
        return (value.letters, value.states, value.rules, value.yes, value.symbols, value.guess)
    return value.procedures if isinstance(value, Program) else value


class CallsTest(unittest.TestCase):
    def check_tuples(self, value):
        """That no list, nor anything else that is no plain value, stands in a value at any level."""
        self.assertIn(type(value), (tuple, int, str, bool, type(None)))
        if isinstance(value, tuple):
            for part in value:
                self.check_tuples(part)

    def test_arguments_by_name_and_in_order(self):
        for (function, given), (other, same) in zip(calls(), calls()):
            with self.subTest(function.__name__):
                self.assertEqual(plain_form(function(**given)), plain_form(by_order(other, same)))

    def test_results_are_tuples_at_every_level(self):
        for function, given in calls():
            with self.subTest(function.__name__):
                self.check_tuples(plain_form(function(**given)))

    def test_lists_instead_of_tuples(self):
        for (function, given), (other, same) in zip(calls(), calls()):
            lists = {name: as_lists(value) for name, value in given.items()}
            kept = copy.deepcopy([value for value in lists.values() if isinstance(value, list)])
            with self.subTest(function.__name__):
                told = plain_form(function(**lists))
                self.assertEqual(told, plain_form(other(**same)))
                self.check_tuples(told)
                self.assertEqual([value for value in lists.values() if isinstance(value, list)], kept)

    def test_classes_and_their_methods_by_name(self):
        book = Book(machine=pairs(), text=TEXT)
        self.assertEqual(book.ask(surface=(0, 0, "")), Book(pairs(), TEXT).ask((0, 0, "")))
        self.assertEqual(Net(machine=pairs(), text=TEXT).edges, Net(pairs(), TEXT).edges)
        desk = Desk(machine=pairs(), text=TEXT)
        with Trial(desk=desk) as same:
            self.assertEqual(same.splice(place=1, removed=0, letters="a"), 0)
        self.assertEqual((desk.text, desk.machine, desk.book.text), (TEXT, pairs(), TEXT))
        self.assertEqual(desk.splice(place=2, removed=1, letters="bb"), 0)
        self.assertEqual(desk.text, "abbbb")

    def test_traces(self):
        for start in ((1, 2, ("a", "a")), [1, 2, ["a", "a"]]):
            told = list(trace(machine=pairs(), text=TEXT, start=start))
            self.assertEqual(told, list(trace(pairs(), TEXT, start=(1, 2, ("a", "a")))))
            self.check_tuples(tuple(told))

    def test_attributes_are_tuples_at_every_level(self):
        book = Book(pairs(), TEXT)
        desk = Desk(pairs(), TEXT)
        desk.splice(place=1, removed=1, letters="b")
        for value in (book.worked, book.recalled):
            self.check_tuples(value)
        book.ask(surface=[0, 0, ""])
        loops = asked(growing(), TEXT)
        for value in (book.worked, book.recalled, loops.worked, loops.recalled, loops.closing, tuple(loops), Net(pairs(), TEXT).edges,
                      Machine("ab", 4, as_lists(pairs().rules), [3]).rules, Program(as_lists(TREE)).procedures):
            self.check_tuples(value)
        self.assertIn([0, 0, ""], book)
        self.assertIn((0, 0, ""), book)
        self.assertEqual(desk.undo(), None)

    def test_a_string_is_no_sequence(self):
        for value in ("", "0", "a00", "abc"):
            self.assertNotIn(value, asked(pairs(), TEXT))
            self.assertIs(is_ring(Net(guessing(), "ab"), value), False)
            self.assertIs(are_ranks(Net(guessing(), "ab"), value), False)
            self.assertIs(is_floor(pairs(), TEXT, value), False)


class ErrorsTest(unittest.TestCase):
    """The errors of point 13, of all functions and classes that are passed a machine and a text."""

    def plain(self):
        """The functions and classes for plain machines."""
        return (
            lambda machine, text: step(machine, text, (0, 0, ())),
            lambda machine, text: plain_run(machine, text, 5),
            lambda machine, text: next(trace(machine, text)),
            lambda machine, text: excursion(machine, text, (0, 0, ""), 5),
            Book, answer, Desk,
            lambda machine, text: row_fault(machine, text, []),
        )

    def any(self):
        """Those for machines of both kinds."""
        return (
            lambda machine, text: moves(machine, text, (0, 0, ())),
            Net,
            lambda machine, text: paper_fault(machine, text, [("begin",)]),
            lambda machine, text: paper_edge(machine, text, [("begin",)]),
            lambda machine, text: paper_steps(machine, text, [("begin",)]),
            lambda machine, text: paper_run(machine, text, [("begin",)], 5),
            lambda machine, text: is_floor(machine, text, floors(Net(machine, "a"))),
            lambda machine, text: floor_told(machine, text, floors(Net(machine, "a"))),
        )

    def test_texts_come_first(self):
        for function in self.plain() + self.any():
            for machine in (pairs(), guessing()):
                for text in (None, True, 7, "c", "a c", "A", ["a"], ("a", "b"), b"ab", "a" * 401):
                    with self.assertRaises(errors.BadText) as caught:
                        function(machine, text)
                    self.assertIs(caught.exception.text, text)

    def test_guesses_come_then(self):
        for function in self.plain():
            with self.assertRaises(errors.Guesses) as caught:
                function(guessing(), "ab")
            self.assertEqual(caught.exception.key, guessing().guess)
        for function in (lambda: step(guessing(), "ab", None), lambda: plain_run(guessing(), "ab", 5, start=None),
                         lambda: next(trace(guessing(), "ab", start=None)), lambda: excursion(guessing(), "ab", None, 5),
                         lambda: row_fault(guessing(), "ab", [None])):
            with self.assertRaises(errors.Guesses):
                function()

    def test_machines_that_guess_are_taken_by_all_others(self):
        for function in self.any():
            function(guessing(), "a")

    def test_standings_and_surfaces_come_last(self):
        for value in (None, True, "a00", (0, 0), (0, 0, "", 0), (False, 0, ""), (0, 0.0, ""), (4, 0, ""), (0, 6, ""), (0, 0, "c")):
            for function in (lambda: moves(pairs(), TEXT, value), lambda: step(pairs(), TEXT, value),
                             lambda: plain_run(pairs(), TEXT, 5, start=value), lambda: next(trace(pairs(), TEXT, start=value))):
                with self.assertRaises(errors.BadStanding) as caught:
                    function()
                self.assertIs(caught.exception.standing, value)
            book = asked(pairs(), TEXT)
            for function in (lambda: excursion(pairs(), TEXT, value, 5), lambda: book.ask(value), lambda: book.entry(value),
                             lambda: lasting(book, value), lambda: paper(book, value)):
                with self.assertRaises(errors.BadSurface) as caught:
                    function()
                self.assertIs(caught.exception.surface, value)

    def test_all_errors_are_of_one_kind(self):
        for call in (lambda: Machine("", 1, []), lambda: Book(pairs(), "c"), lambda: read_machine(""), lambda: read_program(""),
                     lambda: Program([]), lambda: named("none"), lambda: grammar_machine("ab", [])):
            with self.assertRaises(errors.RecallError):
                call()
            with self.assertRaises(ValueError):
                call()

    def test_errors_change_nothing(self):
        book, desk = asked(pairs(), TEXT), Desk(pairs(), TEXT)
        desk.answer()
        kept = (book.worked, book.recalled, book.closing, list(book))
        for call in (lambda: book.ask((9, 9, "")), lambda: book.entry(None), lambda: lasting(book, (9, 9, "")),
                     lambda: paper(book, None), lambda: said_between(book, 0, 10001)):
            with self.assertRaises(errors.RecallError):
                call()
        self.assertEqual((book.worked, book.recalled, book.closing, list(book)), kept)
        before = (desk.text, desk.book, desk.splices, desk.book.worked, list(desk.book))
        for call in (lambda: desk.splice(9, 0, ""), desk.undo, lambda: perform(desk, [("answer",), None]),
                     lambda: within(Trial(desk), [("splice", 1, 0, "a"), ("undo",), ("undo",)])):
            with self.assertRaises(errors.RecallError):
                call()
        self.assertEqual((desk.text, desk.book, desk.splices, desk.book.worked, list(desk.book)), before)


class SymbolsTest(unittest.TestCase):
    """Symbols that are words which mean something elsewhere."""

    def test_symbols_that_are_words(self):
        for word in ("endless", "falls", "stops", "keep", "push", "say", "yes", "no", "here", "1"):
            rules = [(0, "<", "", 0, 1, "push", word, ""), (0, "a", word, 1, 1, "push", word, "k"), (1, ">", word, 2, -1, "pop", "", "")]
            machine = Machine("a", 3, rules, [2])
            book, net = asked(machine, "a"), Net(machine, "a")
            self.assertEqual(read_machine(write_machine(machine)), machine)
            self.assertEqual((book.answer(), answer(machine, "a"), net.answer()), ("yes", "yes", "yes"))
            self.assertEqual(book.entry((0, 0, "")), (("stops", 2, 1, word), 3, 2, 0, 2, 1))
            self.assertEqual(book.entry((1, 2, word))[0], ("falls", 2, 1))
            self.assertIsNone(row_fault(machine, "a", rows(book)))
            self.assertEqual(standing_at(book, 2), (1, 2, (((word, word), 1),)))
            self.assertEqual((least_yes(net), run_counts(net), longest_run(net)), (3, (1, 0), 3))
            self.assertEqual(paper_run(machine, "a", run_paper(net), 3)[-1], (2, 1, (word,)))
            self.assertEqual(floor_told(machine, "a", floors(net)), 3)
            stops = Machine("a", 3, rules[:2], [1])
            self.assertEqual((answer(stops, "a"), Net(stops, "a").answer()), ("yes", "yes"))
            self.assertIsNone(row_fault(stops, "a", paper(Book(stops, "a"))))


class SurfacesTest(unittest.TestCase):
    """Point 1: each surface is worked once, and each edge too. A test that walks along such a run does not end."""

    def test_what_is_told_of_runs_of_exponentially_many_steps(self):
        machine, text = twice(), "a" * 300
        book, net = asked(machine, text), Net(machine, text)
        steps = 5 * 2 ** 300 - 4
        self.assertEqual(book.entry((0, 0, ""))[1], steps)
        self.assertEqual(standing_at(book, steps)[:2], (3, 1))
        self.assertIsNone(loop(book))
        self.assertEqual(first_at(book, 301), 301)
        self.assertEqual(letters_before(book, steps), 2 ** 300)
        self.assertEqual(said_between(book, 2 ** 300 - 3, 2 ** 300 + 3), "kkk")
        self.assertEqual(sum(number for _, number in counts(book)[0]), steps + 1)
        self.assertEqual(sum(number for _, number in uses(book)[0]), steps)
        self.assertIsNone(row_fault(machine, text, paper(book)))
        self.assertEqual((least_yes(net), longest_run(net), run_counts(net)), (steps, steps, (1, 0)))
        self.assertEqual(paper_steps(machine, text, run_paper(net)), steps)
        self.assertEqual(floor_told(machine, text, floors(net)), steps)
        self.assertTrue(are_ranks(net, ranks(net)))


if __name__ == "__main__":
    unittest.main()
