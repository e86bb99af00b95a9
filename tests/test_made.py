"""Points 56 to 63 over made machines: what each function makes of what the others gave."""

import random
import unittest

from pilerecall.books import Book
from pilerecall.errors import BadMachine, UnlikeLetters
from pilerecall.likeness import likeness, merged, trimmed
from pilerecall.machines import Machine
from pilerecall.mirrors import mirrored
from pilerecall.nets import Net
from pilerecall.prints import said_between
from pilerecall.running import plain_run
from pilerecall.spelling import spelled
from tests.helpers import guessing, pairs, random_machine, twice

ENDLESS = ("endless", None, None, None, None)


class Made:
    """A machine, and what its run on a text is told to be: (answer, steps, place, height, said)."""

    def __init__(self, machine, told, name):
        self.machine = machine
        self.told = told
        self.name = name


def drawn(rng, letters, limit=400):
    """A drawn plain machine, told by its plain run."""
    machine = random_machine(rng, letters, 3, 1)

    def told(text):
        word, steps, (state, place, stack), said = plain_run(machine, text, limit)
        if word == "goes on":
            return ENDLESS
        return ("yes" if state in machine.yes else "no", steps, place, len(stack), said)

    return Made(machine, told, "machine")


def inverted(made):
    def told(text):
        answer, *rest = made.told(text)
        return ({"yes": "no", "no": "yes", "endless": "endless"}[answer], *rest)

    return Made(~made.machine, told, f"~{made.name}")


def joined(first, second, word):
    """first & second, or first | second."""
    def told(text):
        answer, steps, place, height, said = first.told(text)
        if answer == "endless" or answer == {"&": "no", "|": "yes"}[word]:
            return (answer, steps, place, height, said)
        other, more, there, tower, behind = second.told(text)
        if other == "endless":
            return ENDLESS
        return (other, steps + height + place + 3 + more, there, tower, said + behind)

    machine = first.machine & second.machine if word == "&" else first.machine | second.machine
    return Made(machine, told, f"({first.name} {word} {second.name})")


def turned(made):
    def told(text):
        answer, steps, place, height, said = made.told(text[::-1])
        if answer == "endless":
            return ENDLESS
        return (answer, steps + len(text) + 2, len(text) + 1 - place, height, said)

    return Made(mirrored(made.machine), told, f"mirrored({made.name})")


def worded(made, code):
    """The spelled machine."""
    def told(text):
        words = [dict(code)[letter] for letter in text]
        answer, steps, place, height, said = made.told("".join(words))
        if answer == "endless":
            return ENDLESS
        # The place of the letter in whose word the head is.
        ends = [0]
        for word in words:
            ends.append(ends[-1] + len(word))
        ends.append(ends[-1] + 1)
        return (answer, steps, next(at for at, end in enumerate(ends) if place <= end), height, said)

    return Made(spelled(made.machine, code), told, f"spelled({made.name})")


def draw_made(rng, letters, depth):
    """A machine that is made of others, which are made of others."""
    if depth == 0:
        return drawn(rng, letters)
    word = rng.choice(["~", "&", "|", "&", "|", "mirrored", "spelled", "trimmed", "merged"])
    if word in "&|":
        return joined(draw_made(rng, letters, depth - 1), draw_made(rng, letters, rng.randint(0, depth - 1)), word)
    if word == "spelled":
        others = rng.choice(["ab", "abc", "z"])
        code = [(letter, "".join(rng.choice(others) for _ in range(rng.randint(1, 2)))) for letter in letters]
        return worded(draw_made(rng, others, depth - 1), code)
    made = draw_made(rng, letters, depth - 1)
    if word == "~":
        return inverted(made)
    if word == "mirrored":
        return turned(made)
    machine = trimmed(made.machine) if word == "trimmed" else merged(made.machine)
    return Made(machine, made.told, f"{word}({made.name})")


class PlainMachinesTest(unittest.TestCase):
    def test_drawn_makings(self):
        rng = random.Random(601)
        found, depths = {"yes": 0, "no": 0, "endless": 0}, {}
        for number in range(300):
            depth = 2 + number % 3
            letters = rng.choice(["ab", "a", "bc"])
            try:
                made = draw_made(rng, letters, depth)
            except BadMachine:
                continue
            depths[depth] = depths.get(depth, 0) + 1
            for _ in range(3):
                text = "".join(rng.choice(letters) for _ in range(rng.randint(0, 4)))
                answer, steps, place, height, said = made.told(text)
                book = Book(made.machine, text)
                self.assertEqual(book.answer(), answer, (made.name, text))
                found[answer] += 1
                if answer != "endless":
                    self.assertEqual(book.entry((0, 0, ""))[1], steps, (made.name, text))
                    self.assertEqual(book.entry((0, 0, ""))[0][2], place, (made.name, text))
                    self.assertEqual(said_between(book, 0, 5000), said)
                    word, _, standing, _ = plain_run(made.machine, text, steps)
                    self.assertEqual((word, len(standing[2])), ("stops", height))
        self.assertTrue(min(found.values()) > 50, found)
        self.assertTrue(min(depths.values()) > 50, depths)

    def test_all_of_them_one_after_the_other(self):
        # Pairs of x and y, written with words, read from the end, and not the empty text.
        code = [("x", "a"), ("y", "b")]
        some = Machine("xy", 2, [(0, "<", "", 0, 1, "keep", "", ""), (0, "x", "", 1, 0, "keep", "", ""),
                                 (0, "y", "", 1, 0, "keep", "", "")], [1])
        machine = merged(trimmed(mirrored(spelled(pairs(), code)) & some | ~some))
        for text in ("", "yx", "yyxx", "xy", "yyx", "y", "x", "yyyxxx"):
            n = len(text) // 2
            self.assertEqual(Book(machine, text).answer(), "yes" if text == "y" * n + "x" * n else "no")
        self.assertEqual(likeness(machine), tuple(range(machine.states)))

    def test_long_runs(self):
        machine = merged(trimmed(~~(spelled(mirrored(twice()), [("q", "aa")]) & spelled(twice(), [("q", "a")]))))
        book = Book(machine, "q" * 40)
        self.assertEqual(book.answer(), "yes")
        first, second = 5 * 2 ** 80 - 4, 5 * 2 ** 40 - 4
        # The first machine goes to the end of the long text and stops at its place 1, where twice stops.
        standing = Book(mirrored(twice()), "a" * 80).ask()
        self.assertEqual(standing[2], 80)
        self.assertEqual(book.entry((0, 0, ""))[1], first + 82 + 40 + 3 + second)


class GuessingMachinesTest(unittest.TestCase):
    def test_drawn_machines(self):
        rng = random.Random(602)

        def says(machine, text):
            return Net(machine, text).answer() == "yes"

        found = {True: 0, False: 0}
        for _ in range(60):
            first, second = random_machine(rng, "ab", 2, 1, 2), random_machine(rng, "ab", 2, 2, 2)
            code = [("a", "ab"), ("b", rng.choice(["a", "b", "bba"]))]
            for _ in range(2):
                text = "".join(rng.choice("ab") for _ in range(rng.randint(0, 3)))
                both = says(first, text) and says(second, text)
                either = says(first, text) or says(~first, text) and says(second, text)
                out = "".join(dict(code)[letter] for letter in text)
                for machine, told in (
                    (first & second, both),
                    (first | second, either),
                    (mirrored(first & second), None),
                    (merged(trimmed(first | second)), either),
                    (mirrored(mirrored(first) & mirrored(second)), both),
                    (merged(spelled(first, code)), says(first, out)),
                    (trimmed(spelled(merged(first), code)) | ~spelled(second, code),
                     says(first, out) or says(~first, out) and says(~second, out)),
                ):
                    if told is None:
                        told = says(first, text[::-1]) and says(second, text[::-1])
                    self.assertEqual(says(machine, text), told)
                    found[told] += 1
        self.assertTrue(min(found.values()) > 30, found)

    def test_guess_stays(self):
        machine = guessing()
        self.assertEqual((~machine).guess, (0, "<", ""))
        self.assertEqual((machine & pairs()).guess, (0, "<", ""))
        self.assertEqual((pairs() | machine).guess, (6, "<", ""))
        self.assertEqual(mirrored(machine).guess, (1, ">", ""))
        self.assertEqual(spelled(machine, [("q", "aa")]).guess, (0, "<", ""))
        self.assertEqual(merged(trimmed(machine)).guess, (0, "<", ""))


class ErrorsTest(unittest.TestCase):
    def where(self, function):
        with self.assertRaises(BadMachine) as caught:
            function()
        return caught.exception.where

    def test_unlike_letters_come_first(self):
        large = Machine("a", 999, [])
        many = spelled(large, [("q", "a")])
        self.assertEqual(many.states, 1998)
        for function in (lambda: many & large, lambda: many | large, lambda: mirrored(many) & large,
                         lambda: large | merged(many), lambda: ~many & ~~large):
            with self.assertRaises(UnlikeLetters) as caught:
                function()
            self.assertEqual({caught.exception.first, caught.exception.second}, {"q", "a"})
        same = spelled(large, [("a", "a")])
        self.assertEqual(self.where(lambda: same & large), "states")
        self.assertEqual(self.where(lambda: same | large), "states")

    def test_bounds_of_made_machines(self):
        large = Machine("a", 999, [])
        same = spelled(large, [("a", "a")])
        self.assertEqual(mirrored(same).states, 1999)
        self.assertEqual(mirrored(mirrored(same)).states, 2000)
        self.assertEqual(self.where(lambda: mirrored(mirrored(mirrored(same)))), "states")
        self.assertEqual(self.where(lambda: spelled(same, [("a", "a")])), "states")
        # What is merged has room again.
        self.assertEqual(spelled(merged(same), [("a", "aaaa")]).states, 5)
        self.assertEqual(mirrored(trimmed(mirrored(mirrored(same)))).states, 4)

    def test_rules_of_made_machines(self):
        rules = [(state, "a", "", 0, 0, "keep", "", "") for state in range(600)]
        rules += [(state, "b", str(top), 1, 0, "pop", "", "") for state in range(600) for top in range(14)]
        machine = Machine("ab", 600, rules)
        self.assertEqual(len(machine.rules), 9000)
        code = [("a", "a"), ("b", "b")]
        once = spelled(machine, code)
        self.assertEqual((once.states, len(once.rules)), (1200, 18000))
        self.assertEqual(self.where(lambda: spelled(machine, [("a", "b"), ("b", "b")])), "rules")
        self.assertEqual(self.where(lambda: spelled(once, code)), "states")
        self.assertEqual(self.where(lambda: once & once), "states")
        # All states but the first one lead on in the same way, so few are left.
        less = merged(once)
        self.assertLess(less.states, 10)
        self.assertEqual((less & less).states, 2 * less.states + 2)


if __name__ == "__main__":
    unittest.main()
