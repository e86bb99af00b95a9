"""Points 54 and 55: machines made from programs."""

import random
import unittest

from pilerecall.books import Book
from pilerecall.compiling import compiled
from pilerecall.errors import BadMachine
from pilerecall.loops import loop
from pilerecall.machines import Machine
from pilerecall.meaning import meaning
from pilerecall.prints import letters_said, said_between
from pilerecall.programs import Program
from pilerecall.reading import read_program
from pilerecall.running import plain_run
from tests.helpers import after_rule, random_text, rules_at
from tests.plainmeaning import PlainFlow, PlainMeaning
from tests.trees import drawn_trees

def plain_test(test, sign, top):
    """Whether a test holds, by the words of point 50."""
    word = test[0]
    if word == "at":
        return sign == test[1]
    if word == "top":
        return top == test[1]
    if word == "same":
        return sign not in "<>" and sign == top
    parts = [plain_test(part, sign, top) for part in test[1:]]
    return not parts[0] if word == "not" else all(parts) if word == "and" else any(parts)


def plain_rules(tree, letters):
    """The rules of point 54, as a set."""
    nodes = PlainFlow(tree).nodes()
    size = len(nodes)
    words = [node[1] for node in nodes if node[0] == "push"]
    data = {word for word in words if word != "here"} | (set(letters) if "here" in words else set())
    calls = {str(number): node for number, node in enumerate(nodes) if node[0] == "call"}
    rules = set()
    for sign in "<>" + letters:
        letter = "" if sign in "<>" else sign
        for top in {""} | data | set(calls):
            own = top if top in data else ""
            for number, node in enumerate(nodes):
                word, after, move, deed, symbol, said = node[0], node[-1], 0, "keep", "", ""
                if word == "move" and not (sign == "<" and node[1] == -1 or sign == ">" and node[1] == 1):
                    move = node[1]
                elif word == "push" and (node[1] != "here" or letter):
                    deed, symbol = "push", letter if node[1] == "here" else node[1]
                elif word == "pop" and own:
                    deed = "pop"
                elif word == "say":
                    said = letter if node[1] == "here" else node[1]
                elif word == "test":
                    after = node[2] if plain_test(node[1], sign, own) else node[3]
                elif word == "call":
                    after, deed, symbol = node[1], "push", str(number)
                elif word == "guess":
                    rules.add((number, sign, top, node[1], 0, "keep", "", ""))
                elif word in ("give", "halt"):
                    after = size + ["yes", "no"].index(node[1]) + (2 if word == "halt" else 0)
                rules.add((number, sign, top, after, move, deed, symbol, said))
            for state in (size, size + 1):
                if own:
                    rules.add((state, sign, top, state, 0, "pop", "", ""))
                elif top:
                    rules.add((state, sign, top, calls[top][2 + state - size], 0, "pop", "", ""))
    return rules


def machine_of(text, letters="ab"):
    """The machine of a program's text."""
    return compiled(read_program(text), letters)


def compiled_trees(trees, letters):
    """Yields trees with their programs and machines, but for those whose machines have too many rules."""
    for tree in trees:
        program = Program(tree)
        try:
            yield tree, program, compiled(program, letters)
        except BadMachine:
            pass


class MachinesTest(unittest.TestCase):
    def test_example(self):
        program = read_program("to main right while not at > do push here right end end")
        self.assertEqual(plain_run(compiled(program=program, letters="ab"), "ab", 100), ("stops", 11, (5, 3, ()), ""))

    def test_drawn_programs(self):
        rng = random.Random(141)
        guesses = 0
        for tree in drawn_trees(142, 150, most=3):
            letters = rng.choice(["a", "ab", "abc", "bz"])
            rules = plain_rules(tree, letters)
            if len(rules) > 20000:
                continue
            machine = compiled(Program(tree), letters)
            size = len(PlainFlow(tree).nodes())
            self.assertEqual(machine, Machine(letters, size + 4, list(rules), [size, size + 2]))
            guesses += machine.guess is not None
        self.assertGreater(guesses, 20)

    def test_every_node(self):
        text = ("to main left right push Q push here pop say k say here call f if not call f then left end"
                " while at a and not top none or same do right end either left or right end either or end"
                " yes no halt yes halt no end to f push b end")
        machine = machine_of(text)
        tree = read_program(text).procedures
        self.assertEqual(set(machine.rules), plain_rules(tree, "ab"))
        self.assertEqual(machine.states, len(PlainFlow(tree).nodes()) + 4)

    def test_a_small_machine_in_full(self):
        machine = machine_of("to f push a call f end", "a")
        rules = []
        for sign in "<a>":
            for top in ("", "1", "a"):
                rules += [(0, sign, top, 1, 0, "push", "a", ""), (1, sign, top, 0, 0, "push", "1", ""),
                          (2, sign, top, 3, 0, "keep", "", "")]
            rules += [(3, sign, "a", 3, 0, "pop", "", ""), (3, sign, "1", 2, 0, "pop", "", ""),
                      (4, sign, "a", 4, 0, "pop", "", ""), (4, sign, "1", 2, 0, "pop", "", "")]
        self.assertEqual((machine.letters, machine.states, machine.yes), ("a", 7, (3, 5)))
        self.assertEqual(machine.rules, tuple(sorted(rules)))
        self.assertEqual(machine.symbols, ("1", "a"))

    def test_what_is_never_come_to_counts(self):
        machine = machine_of("to main halt no push Q push here call g end to g end")
        self.assertEqual(machine.symbols, ("3", "Q", "a", "b"))
        self.assertEqual(machine.acts(1, "a", "3"), ((2, 0, "push", "Q", ""),))
        # Without a push no mark is a data symbol, even if tests ask for it.
        self.assertEqual(machine_of("to main while top Q do say a end end").symbols, ())

    def test_return_symbols_are_no_tops_of_the_own_stack(self):
        machine = machine_of("to main call f end to f if top none then halt yes end halt no end")
        self.assertEqual(plain_run(machine, "", 10)[:3], ("stops", 3, (machine.states - 2, 0, ("0",))))

    def test_alphabets(self):
        program = read_program("to main push here end")
        for letters in ("a", "abcdefghijklmnopqrstuvwxyz", "z", "bq"):
            machine = compiled(program, letters)
            self.assertEqual((machine.letters, machine.symbols), (letters, tuple(letters)))
        for letters in (None, True, 7, "", "ba", "aa", "A", "a b", ["a"], ("a", "b"), b"ab", "ab>", "a\n", "\u00e4", object()):
            for text in ("to main push here end", "to main" + " push a call main" * 100 + " end"):
                with self.subTest(letters=letters), self.assertRaises(BadMachine) as caught:
                    compiled(read_program(text), letters)
                self.assertEqual(caught.exception.where, "letters")


class BoundsTest(unittest.TestCase):
    MARKS = "abcdefghijklmnopqrstuvwxyzABCDEFGHIJKLMNOPQRSTUVWXYZ"

    def program(self, marks, nodes, forks=0, equal=0):
        """A program with so many marks that it pushes, and so many nodes, some of which guess."""
        statements = [("push", mark) for mark in self.MARKS[:marks]] + [("either", (("left",),), ())] * forks
        statements += [("either", (), ())] * equal
        rest = nodes - 1 - marks - 2 * forks - equal
        return Program([("main", statements + [("right",)] * rest)])

    def check_refused(self, program, letters):
        with self.assertRaises(BadMachine) as caught:
            compiled(program, letters)
        self.assertEqual(caught.exception.where, "rules")

    def test_20000_rules(self):
        # Signs times (tops times nodes, and two for each top but the empty one).
        self.assertEqual(4 * (41 * 120 + 2 * 40), 20000)
        self.assertEqual(len(compiled(self.program(40, 120), "ab").rules), 20000)
        # A node that guesses has twice as many, but not if both blocks begin with the same node.
        self.assertEqual(len(compiled(self.program(40, 117, 3), "ab").rules), 20000)
        self.assertEqual(len(compiled(self.program(40, 120, 0, 5), "ab").rules), 20000)
        self.assertEqual(len(compiled(self.program(40, 116, 4, 5), "ab").rules), 20000)

    def test_20001_rules(self):
        self.assertEqual(3 * (27 * 245 + 2 * 26), 20001)
        self.check_refused(self.program(26, 245), "a")
        self.check_refused(self.program(26, 240, 5, 2), "a")
        self.assertEqual(len(compiled(self.program(26, 244), "a").rules), 20001 - 81)
        self.check_refused(self.program(40, 121), "ab")
        self.check_refused(self.program(40, 118, 3), "ab")

    def test_millions_of_rules(self):
        tree = [("main", [("call", "main")] * 248 + [("push", mark) for mark in self.MARKS])]
        self.check_refused(Program(tree), "abcdefghijklmnopqrstuvwxyz")

    def test_calls_have_tops_and_rules_of_their_own(self):
        # With c calls and n nodes in all there are 3 * ((c + 1) * n + 2 * c) rules.
        tree = [("main", [("call", "main")] * 79 + [("left",)])]
        self.assertEqual(len(compiled(Program(tree), "a").rules), 3 * (80 * 81 + 2 * 79))
        tree = [("main", [("call", "main")] * 80 + [("left",)])]
        self.check_refused(Program(tree), "a")


class RunsTest(unittest.TestCase):
    def check_run(self, machine, program, text, limit):
        """The plain run beside the meaning, within a limit; returns the meaning."""
        word, steps, standing, said = plain_run(machine, text, limit)
        told = meaning(program, text, limit)
        if told is None:
            self.assertEqual((word, steps), ("goes on", limit))
            return None
        answer = "yes" if standing[0] in machine.yes else "no"
        self.assertEqual(word, "stops")
        self.assertEqual((answer, standing[1], said, steps), told)
        return told

    def test_drawn_programs(self):
        rng = random.Random(143)
        found = {"yes": 0, "no": 0, "endless": 0}
        trees = drawn_trees(144, 250, levels=4, most=4, without=("either",))
        for _, program, machine in compiled_trees(trees, "abc"):
            self.assertIsNone(machine.guess)
            for _ in range(3):
                text = random_text(rng, "abc", 4)
                self.check_run(machine, program, text, rng.randint(0, 40))
                told = self.check_run(machine, program, text, 3000)
                book = Book(machine, text)
                answer = book.answer()
                found[answer] += 1
                if told is None:
                    self.assertEqual(answer, "endless")
                else:
                    entry = book.entry((0, 0, ""))
                    self.assertEqual((answer, entry[0][2], said_between(book, 0, 1000), entry[1]), told)
        self.assertTrue(min(found.values()) > 30, found)

    def test_programs_that_never_end(self):
        for block, grows in (("while at < do say a end", False), ("call main", True), ("push b call main", True)):
            program = read_program(f"to main {block} end")
            machine = compiled(program, "ab")
            self.assertIsNone(self.check_run(machine, program, "ab", 500))
            book = Book(machine, "ab")
            self.assertEqual(book.answer(), "endless")
            self.assertEqual(bool(loop(book)[4]), grows)

    def test_calls_of_exponentially_many_moves(self):
        program = read_program("to main if at > then say k else right call main call main left end end")
        machine = compiled(program, "ab")
        # A call that prints takes 4 moves, one that calls twice takes 7, and the first call takes one less.
        for n in range(8):
            told = self.check_run(machine, program, "a" * n, 100000)
            calls = 2 ** (n + 1)
            self.assertEqual(told, ("yes", 0, "k" * calls, 7 * (calls - 1) + 4 * calls - 1))
        for n in (70, 400):
            book = Book(machine, "ba" * (n // 2))
            self.assertEqual(book.answer(), "yes")
            calls = 2 ** (n + 1)
            self.assertEqual(book.entry((0, 0, ""))[1], 7 * (calls - 1) + 4 * calls - 1)
            self.assertEqual(letters_said(book), calls)

    def test_rows_of_choices_are_runs_of_the_machine(self):
        rng = random.Random(145)
        guessed = 0
        for tree, program, machine in compiled_trees(drawn_trees(146, 400, levels=3, most=5), "ab"):
            nodes = PlainFlow(tree).nodes()
            for _ in range(3):
                text, choices = random_text(rng, "ab", 3), [rng.randint(0, 1) for _ in range(8)]
                told = meaning(program, text, 200, choices=choices)
                self.assertEqual(told, PlainMeaning(tree, text, 200, choices).told())
                standing, said, steps, left = (0, 0, ()), "", 0, list(choices)
                while steps <= 200:
                    fitting = rules_at(machine, text, standing)
                    if not fitting:
                        break
                    rule = fitting[0]
                    if standing[0] < len(nodes) and nodes[standing[0]][0] == "guess":
                        after = nodes[standing[0]][1 + (left.pop(0) if left else 0)]
                        self.assertEqual({one[3] for one in fitting}, set(nodes[standing[0]][1:]))
                        rule = next(one for one in fitting if one[3] == after)
                        guessed += 1
                    standing, said, steps = after_rule(standing, rule), said + rule[7], steps + 1
                if told is None:
                    self.assertGreater(steps, 200)
                else:
                    answer = "yes" if standing[0] in machine.yes else "no"
                    self.assertEqual((answer, standing[1], said, steps), told)
        self.assertGreater(guessed, 100)


if __name__ == "__main__":
    unittest.main()
