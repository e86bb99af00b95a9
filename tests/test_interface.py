"""The interface: its names, the names of its parameters, where it is defined, and its examples."""

import ast
import builtins
import doctest
import importlib
import inspect
import pathlib
import unittest

from pilerecall.errors import RecallError

FOLDER = pathlib.Path(__file__).resolve().parent.parent / "pilerecall"

# Each module with its functions and classes; a class has its methods behind it.
INTERFACE = """
machines: Machine(letters, states, rules, yes=())
    acts(state, sign, top)
machinenotes: write_machine(machine); read_machine(text)
standings: surface_of(standing); moves(machine, text, standing); step(machine, text, standing); lifted(standing, below)
running: plain_run(machine, text, limit, *, start=(0, 0, ())); trace(machine, text, *, start=(0, 0, ()))
running: excursion(machine, text, surface, limit)
books: Book(machine, text)
    ask(surface=(0, 0, '')); entry(surface); answer()
books: answer(machine, text)
bills: surfaces_at_most(machine, length); meetings_at_most(machine, length)
bills: edges_at_most(machine, length); joinings_at_most(machine, length)
loops: lasting(book, surface=(0, 0, '')); loop(book)
far: standing_at(book, steps); height_of(pieces); unfold(pieces); first_at(book, place)
prints: letters_said(book); letters_before(book, steps); letter_at(book, index); said_between(book, first, last)
profiles: counts(book); uses(book)
rows: rows(book); paper(book, surface=(0, 0, '')); row_fault(machine, text, rows)
desks: Desk(machine, text)
    answer(); splice(place, removed, letters); undo()
desks: Trial(desk)
deeds: perform(desk, deeds); within(trial, deeds)
programs: Program(procedures)
reading: read_program(text)
writing: write_program(program)
meaning: meaning(program, text, limit, *, choices=())
flows: flow(program)
compiling: compiled(program, letters)
mirrors: mirrored(machine)
spelling: spelled(machine, code)
likeness: trimmed(machine); is_likeness(machine, classes); likeness(machine); merged(machine)
nets: Net(machine, text)
    answer()
prices: prices(net); reaches(net); least_yes(net)
runpapers: run_paper(net); paper_fault(machine, text, lines); paper_edge(machine, text, lines)
runpapers: paper_steps(machine, text, lines); paper_run(machine, text, lines, limit)
floors: floors(net); is_floor(machine, text, table); floor_told(machine, text, table)
rings: links(net); is_ring(net, ring); find_ring(net); ranks(net); are_ranks(net, ranked)
runcounts: run_counts(net); longest_run(net)
grammars: grammar_machine(letters, grammar); derivation_size(letters, grammar, text)
library: named_text(name); named(name)
plainly: plainly(name, text); said_plainly(name, text, first, last)
errors: BadMachine(where); BadLine(number); BadText(text); Guesses(key); BadStanding(standing); BadSurface(surface)
errors: TooLong(length); BadSplice(place, removed, letters); NothingToUndo(); BadDeed(index); BadTree(index)
errors: DoubleName(name); NoSuchProcedure(name); BadToken(place); UnlikeLetters(first, second); BadCode(index)
errors: BadPaper(place); BadGrammar(index); NoSuchProgram(name)
"""

# The operators and the methods by which Python's own functions and statements work.
OPERATORS = {
    ("machines", "Machine"): ("__eq__", "__invert__", "__and__", "__or__"),
    ("books", "Book"): ("__len__", "__contains__", "__iter__"),
    ("desks", "Trial"): ("__enter__", "__exit__"),
    ("programs", "Program"): ("__eq__",),
}

EXAMPLES = """
>>> from pilerecall.machines import Machine
>>> pairs = Machine("ab", 4, [(0, "<", "", 1, 1, "keep", "", ""), (1, "a", "", 1, 1, "push", "a", ""), (1, "a", "a", 1, 1, "push", "a", ""), (1, "b", "a", 2, 1, "pop", "", ""), (2, "b", "a", 2, 1, "pop", "", ""), (1, ">", "", 3, 0, "keep", "", ""), (2, ">", "", 3, 0, "keep", "", "")], [3])
>>> twice = Machine("a", 4, [(0, "<", "", 0, 1, "keep", "", ""), (0, "a", "", 0, 1, "push", "x", ""), (0, "a", "x", 0, 1, "push", "x", ""), (0, "a", "y", 0, 1, "push", "x", ""), (0, ">", "", 3, 0, "keep", "", ""), (0, ">", "x", 1, 0, "pop", "", "k"), (0, ">", "y", 2, 0, "pop", "", "k"), (1, "a", "", 0, 0, "push", "y", ""), (1, "a", "x", 0, 0, "push", "y", ""), (1, "a", "y", 0, 0, "push", "y", ""), (1, ">", "", 0, 0, "push", "y", ""), (1, ">", "x", 0, 0, "push", "y", ""), (1, ">", "y", 0, 0, "push", "y", ""), (2, "a", "", 3, -1, "keep", "", ""), (2, "a", "x", 3, -1, "keep", "", ""), (2, "a", "y", 3, -1, "keep", "", ""), (2, ">", "", 3, -1, "keep", "", ""), (2, ">", "x", 3, -1, "keep", "", ""), (2, ">", "y", 3, -1, "keep", "", ""), (3, "a", "x", 1, 0, "pop", "", ""), (3, "a", "y", 2, 0, "pop", "", "")], [3])
>>> pairs.acts(1, "a", "")
((1, 1, 'push', 'a', ''),)
>>> (pairs.symbols, pairs.guess, pairs.yes, (~pairs).yes)
(('a',), None, (3,), (0, 1, 2))
>>> from pilerecall.machinenotes import read_machine, write_machine
>>> small = read_machine("letters ab\\nstates 2\\nyes 1\\n0 < - 1 right push a say bb\\n")
>>> small.rules
((0, '<', '', 1, 1, 'push', 'a', 'bb'),)
>>> write_machine(small)
'letters ab\\nstates 2\\nyes 1\\n0 < - 1 right push a say bb\\n'
>>> from pilerecall.running import plain_run, excursion
>>> plain_run(pairs, "ab", 10)
('stops', 4, (3, 3, ()), '')
>>> plain_run(pairs, "ab", 2)
('goes on', 2, (1, 2, ('a',)), '')
>>> excursion(twice, "aa", (0, 2, "x"), 100)
(('falls', 1, 2), 6, 1, 2, 3, 'kk')
>>> from pilerecall.books import Book, answer
>>> book = Book(pairs, "ab")
>>> book.ask()
('stops', 3, 3, '')
>>> book.worked
((0, 0, ''), (1, 1, ''), (1, 2, 'a'), (2, 3, ''), (3, 3, ''))
>>> book.entry((0, 0, ""))
(('stops', 3, 3, ''), 4, 1, 0, 3, 0)
>>> long = Book(twice, "a" * 60)
>>> long.ask()
('stops', 3, 1, '')
>>> (long.entry((0, 0, ""))[1], len(long))
(5764607523034234876, 479)
>>> from pilerecall.desks import Desk, Trial
>>> from pilerecall.deeds import perform, within
>>> desk = Desk(pairs, "ab")
>>> trial = Trial(desk)
>>> perform(desk, [("answer",), ("splice", 1, 0, "a"), ("answer",)])
('yes', 4, 'no')
>>> within(trial, [("splice", 4, 0, "b"), ("answer",), ("work",)])
(4, 'yes', (4, 2))
>>> (desk.text, desk.splices)
('aab', 1)
>>> from pilerecall.reading import read_program
>>> from pilerecall.writing import write_program
>>> program = read_program("to main right while not at > do push here right end end")
>>> program.procedures
(('main', (('right',), ('while', ('not', ('at', '>')), (('push', 'here'), ('right',))))),)
>>> write_program(program)
'to main\\n  right\\n  while not at > do\\n    push here\\n    right\\n  end\\nend\\n'
>>> from pilerecall.meaning import meaning
>>> from pilerecall.flows import flow
>>> from pilerecall.compiling import compiled
>>> meaning(program, "ab", 100)
('yes', 3, '', 11)
>>> flow(program)
(('move', 1, 1), ('test', ('not', ('at', '>')), 2, 4), ('push', 'here', 3), ('move', 1, 1), ('give', 'yes'))
>>> plain_run(compiled(program, "ab"), "ab", 100)
('stops', 11, (5, 3, ()), '')
"""


def heads(line):
    """The names and the parameters of what a line lists."""
    for head in line.split("; "):
        name, _, rest = head.partition("(")
        yield name, "(" + rest


def listed():
    """Yields (module, name, parameters, methods) for each function and class; methods are pairs."""
    found = []
    for line in INTERFACE.strip().split("\n"):
        if line.startswith(" "):
            found[-1][3].extend(heads(line.strip()))
        else:
            module, _, rest = line.partition(": ")
            found.extend((module, name, parameters, []) for name, parameters in heads(rest))
    return found


class NamesTest(unittest.TestCase):
    def test_all_is_listed(self):
        self.assertEqual(len(listed()), 91)

    def test_functions_and_classes(self):
        for module, name, parameters, methods in listed():
            made = getattr(importlib.import_module(f"pilerecall.{module}"), name)
            with self.subTest(module, name=name):
                signature = str(inspect.signature(made)) if parameters != "()" or module != "errors" else "()"
                self.assertEqual(signature, parameters)
                self.assertEqual(made.__module__, f"pilerecall.{module}")
                for method, given in methods:
                    self.assertEqual(str(inspect.signature(getattr(made, method))).replace("(self, ", "(").replace("(self)", "()"), given)

    def test_where_they_are_defined(self):
        for module, name, _, methods in listed():
            tree = ast.parse((FOLDER / f"{module}.py").read_text())
            found = [node for node in tree.body if isinstance(node, (ast.FunctionDef, ast.ClassDef)) and node.name == name]
            with self.subTest(module, name=name):
                self.assertEqual(len(found), 1)
                defined = {node.name for node in found[0].body if isinstance(node, ast.FunctionDef)}
                expected = {method for method, _ in methods} | set(OPERATORS.get((module, name), ()))
                self.assertLessEqual(expected, defined)

    def test_values(self):
        from pilerecall.library import NAMES
        from pilerecall.standings import START
        self.assertEqual(START, (0, 0, ()))
        self.assertEqual(len(NAMES), 15)

    def test_errors(self):
        for module, name, _, _ in listed():
            if module == "errors":
                made = getattr(importlib.import_module("pilerecall.errors"), name)
                self.assertEqual(made.__bases__, (RecallError,))

    def test_attributes_are_set_at_once(self):
        from pilerecall.books import Book
        from pilerecall.desks import Desk
        from pilerecall.machines import Machine
        from pilerecall.nets import Net
        from pilerecall.programs import Program
        machine = Machine("a", 1, [])
        for made, names in ((machine, "letters states rules yes symbols guess"), (Book(machine, ""), "machine text worked recalled closing"),
                            (Desk(machine, ""), "machine text book splices"), (Program([("main", ())]), "procedures"),
                            (Net(machine, ""), "machine text edges joinings")):
            self.assertLessEqual(set(names.split()), set(vars(made)))


class ExamplesTest(unittest.TestCase):
    def test_examples(self):
        # A doctest leaves the last value behind as a builtin.
        self.addCleanup(vars(builtins).pop, "_", None)
        test = doctest.DocTestParser().get_doctest(EXAMPLES, {}, "examples", None, 0)
        runner = doctest.DocTestRunner()
        runner.run(test)
        results = runner.summarize(verbose=False)
        self.assertEqual(results.failed, 0)
        self.assertGreater(results.attempted, 30)

    def test_what_is_told_of_the_two_machines(self):
        given = {}
        exec("\n".join(line[4:] for line in EXAMPLES.split("\n")[1:4]), given)
        from pilerecall.books import Book, answer
        for text in ("", "ab", "aabb", "a" * 200 + "b" * 200):
            self.assertEqual(answer(given["pairs"], text), "yes")
        for text in ("a", "ba", "aab", "abb", "abab"):
            self.assertEqual(answer(given["pairs"], text), "no")
        for n in (1, 2, 3, 50):
            book = Book(given["twice"], "a" * n)
            book.ask()
            self.assertEqual((book.entry((0, 0, ""))[1], book.entry((0, 0, ""))[5]), (5 * 2 ** n - 4, 2 ** n))


if __name__ == "__main__":
    unittest.main()
