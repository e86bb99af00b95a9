"""Points 79 and 80: the library, beside plain definitions and beside its compiled machines."""

import itertools
import random
import re
import unittest

from pilerecall.bills import surfaces_at_most
from pilerecall.books import Book
from pilerecall.compiling import compiled
from pilerecall.errors import BadText, NoSuchProgram
from pilerecall.far import height_of, standing_at
from pilerecall.library import NAMES, named, named_text
from pilerecall.loops import loop
from pilerecall.nets import Net
from pilerecall.plainly import plainly, said_plainly
from pilerecall.prices import least_yes
from pilerecall.prints import letters_said, said_between
from pilerecall.programs import Program
from pilerecall.reading import read_program
from pilerecall.rings import find_ring
from pilerecall.running import plain_run
from pilerecall.writing import write_program

GUESSING = ("twomirrors", "evenmirrors")
PLAIN = [name for name in NAMES if name not in GUESSING]
PRINTING = ("backwards", "doubling", "chant")
TEXTS = ["".join(text) for size in range(6) for text in itertools.product("abc", repeat=size)]
MACHINES = {name: compiled(named(name), "abc") for name in NAMES}
STRANGE = (None, True, 7, 1.5, "", "mirror", "Mirrored", "mirrored ", "mirroredfound", b"mirrored", [], ["mirrored"],
           ("mirrored",), {}, {"mirrored"}, object())


def mirrored(text):
    return text == "".join(reversed(text))


def closed(text):
    """Whether brackets are closed, by taking pairs out until none is left."""
    text = text.replace("c", "")
    while "ab" in text:
        text = text.replace("ab", "")
    return text == ""


def rowed(text):
    """Whether a text is a row of mirrored parts with even numbers of letters."""
    return text == "" or any(mirrored(text[:size]) and rowed(text[size:]) for size in range(2, len(text) + 1, 2))


# Whether a text gets a yes, by the words of point 79, where that is asked at all.
JUDGES = {
    "mirrored": mirrored,
    "found": lambda text: bool(re.fullmatch("([ab]*)c[ab]*", text)) and text.split("c")[0] in text.split("c")[1],
    "bordered": lambda text: any(text[:size] == text[-size:] for size in range(1, len(text))),
    "mirrorstart": lambda text: any(mirrored(text[:size]) for size in range(2, len(text) + 1)),
    "balanced": closed,
    "evenly": lambda text: sorted(text).count("a") == len(text.replace("c", "").replace("a", "")),
    "copied": lambda text: bool(re.fullmatch(r"([ab]*)c\1", text)),
    "thirds": lambda text: any(text == "a" * n + "b" * n + "c" * n for n in range(len(text) + 1)),
    "power": lambda text: bin(len(text)).count("1") == 1,
    "twomirrors": lambda text: any(mirrored(text[:size]) and mirrored(text[size:]) for size in range(1, len(text))),
    "evenmirrors": rowed,
}


def told_plainly(name, text):
    """The answer by the judges above."""
    if name in ("chant", "rounds"):
        return "endless"
    return "no" if name in JUDGES and not JUDGES[name](text) else "yes"


def long_texts(rng, most):
    """Texts of about so many letters: drawn ones, and some for which a program may well say yes."""
    half = "".join(rng.choice("ab") for _ in range(most // 2 - 1))
    n = most // 3
    texts = ["".join(rng.choice("abc") for _ in range(most)), half + half[::-1], half + "c" + half[::-1], half + "c" + half,
             half + "c" + half[:-1], "a" * n + "b" * n + "c" * n, "a" * n + "b" * n + "c" * (n - 1), "a" * (most // 2) + "b" * (most // 2),
             half + half, "ab" * (most // 2), "aab" * n, "a" * most, "a" * (most - 1) + "b", "", half[:n] + "c" + half,
             "ab" + "bbaa" * (most // 8), "abba" * (most // 4), "abb" + "c" * (most - 3), "c" * (most // 2) + "b" + "c" * (most // 2 - 1)]
    return texts + ["c" * size for size in (16, 31, 32, 33)]


class ProgramsTest(unittest.TestCase):
    def test_names(self):
        self.assertEqual(NAMES, (
            "mirrored", "found", "bordered", "mirrorstart", "balanced", "evenly", "copied", "thirds", "power", "backwards",
            "doubling", "chant", "rounds", "twomirrors", "evenmirrors"))
        self.assertIs(type(NAMES), tuple)

    def test_texts_are_written_forms(self):
        for name in NAMES:
            program, text = named(name=name), named_text(name=name)
            self.assertIsInstance(program, Program)
            self.assertIs(type(text), str)
            self.assertEqual(read_program(text), program)
            self.assertEqual(write_program(program), text)
            self.assertEqual(program.procedures[0][0], name)

    def test_which_programs_guess(self):
        for name in NAMES:
            self.assertEqual("either" in named_text(name).split(), name in GUESSING)
            self.assertEqual(MACHINES[name].guess is not None, name in GUESSING)


class AnswersTest(unittest.TestCase):
    def test_plain_definitions(self):
        for name in NAMES:
            found = set()
            for text in TEXTS:
                told = plainly(name=name, text=text)
                self.assertEqual(told, told_plainly(name, text), (name, text))
                found.add(told)
            self.assertEqual(found, {"yes", "no"} if name in JUDGES else {told_plainly(name, "")})

    def test_plain_definitions_of_long_texts(self):
        rng = random.Random(730)
        for name in NAMES:
            for text in long_texts(rng, 40 if name in GUESSING else 400):
                if name != "evenmirrors" or len(text) < 25:
                    self.assertEqual(plainly(name, text), told_plainly(name, text), (name, text))

    def test_some_answers(self):
        for name, text, told in (
            ("mirrored", "", "yes"), ("mirrored", "abcba", "yes"), ("mirrored", "abcb", "no"),
            ("found", "c", "yes"), ("found", "cab", "yes"), ("found", "abcaab", "yes"), ("found", "abc", "no"), ("found", "cc", "no"),
            ("found", "", "no"), ("found", "bcacb", "no"), ("bordered", "aa", "yes"), ("bordered", "a", "no"), ("bordered", "aba", "yes"),
            ("bordered", "abcab", "yes"), ("bordered", "", "no"), ("mirrorstart", "aab", "yes"), ("mirrorstart", "aba", "yes"),
            ("mirrorstart", "a", "no"), ("mirrorstart", "abc", "no"), ("balanced", "", "yes"), ("balanced", "acb", "yes"),
            ("balanced", "ba", "no"), ("balanced", "aab", "no"), ("evenly", "", "yes"), ("evenly", "cab", "yes"), ("evenly", "ca", "no"),
            ("copied", "c", "yes"), ("copied", "abcab", "yes"), ("copied", "abcba", "no"), ("copied", "cc", "no"), ("copied", "ccc", "no"),
            ("thirds", "", "yes"), ("thirds", "abc", "yes"), ("thirds", "ab", "no"), ("thirds", "b", "no"), ("thirds", "acb", "no"),
            ("power", "", "no"), ("power", "c", "yes"), ("power", "abca", "yes"), ("power", "abc", "no"), ("backwards", "", "yes"),
            ("doubling", "c", "yes"), ("chant", "", "endless"), ("rounds", "a", "endless"), ("twomirrors", "ab", "yes"),
            ("twomirrors", "a", "no"), ("twomirrors", "", "no"), ("twomirrors", "abab", "yes"), ("twomirrors", "abca", "no"),
            ("evenmirrors", "", "yes"), ("evenmirrors", "aabb", "yes"), ("evenmirrors", "abbacc", "yes"), ("evenmirrors", "aba", "no"),
        ):
            self.assertEqual(plainly(name, text), told, (name, text))

    def test_compiled_machines(self):
        for name in PLAIN:
            for text in TEXTS:
                book = Book(MACHINES[name], text)
                self.assertEqual(book.answer(), plainly(name, text), (name, text))
                # The bill.
                self.assertLessEqual(len(book.worked), surfaces_at_most(MACHINES[name], len(text)))

    def test_compiled_machines_on_long_texts(self):
        rng = random.Random(731)
        for name in PLAIN:
            for text in long_texts(rng, 400):
                book = Book(MACHINES[name], text)
                self.assertEqual(book.answer(), plainly(name, text), (name, text))
                self.assertLessEqual(len(book.worked), surfaces_at_most(MACHINES[name], len(text)))

    def test_nets_of_those_that_guess(self):
        rng = random.Random(732)
        for name in GUESSING:
            for text in TEXTS + long_texts(rng, 40):
                self.assertEqual(Net(MACHINES[name], text).answer(), plainly(name, text), (name, text))

    def test_no_run_of_those_that_guess_is_endless(self):
        for name in GUESSING:
            for text in TEXTS[::9] + ["abcabbac", "aaaaaa"]:
                self.assertIsNone(find_ring(Net(MACHINES[name], text)))

    def test_nets_of_all_others(self):
        for name in PLAIN:
            for text in TEXTS[:40:3]:
                book, net = Book(MACHINES[name], text), Net(MACHINES[name], text)
                self.assertEqual(net.answer() == "yes", book.answer() == "yes")
                self.assertEqual(find_ring(net) is None, book.answer() != "endless")
                self.assertEqual(least_yes(net), book.entry((0, 0, ""))[1] if book.answer() == "yes" else None)


class PrintsTest(unittest.TestCase):
    def all_said(self, name, text):
        """All that is printed, or its first letters, by the words of point 79."""
        if name == "backwards":
            return "".join(reversed(text))
        if name == "doubling":
            return "a" * 2 ** len(text)
        return text * 300 if name == "chant" else ""

    def test_plain_definitions(self):
        for name in NAMES:
            for text in TEXTS[::5] + ["ccabc", "abcab"]:
                said = self.all_said(name, text)
                for first, last in ((0, 50), (0, 0), (0, 1), (1, 3), (3, 1), (2, 2), (30, 35), (31, 200), (7, 6), (0, 5)):
                    told = said_plainly(name=name, text=text, first=first, last=last)
                    self.assertEqual(told, said[first:last], (name, text, first, last))

    def test_compiled_machines(self):
        for name in PLAIN:
            for text in TEXTS:
                book = Book(MACHINES[name], text)
                for first, last in ((0, 40), (5, 9), (31, 33)):
                    self.assertEqual(said_between(book, first, last), said_plainly(name, text, first, last), (name, text))
                number = letters_said(book)
                if name == "chant" and text:
                    self.assertIsNone(number)
                else:
                    self.assertEqual(number, len(self.all_said(name, text)))

    def test_plain_runs(self):
        for name in PLAIN:
            for text in TEXTS[:40]:
                word, _, _, said = plain_run(MACHINES[name], text, 2000)
                if plainly(name, text) == "endless":
                    self.assertEqual((word, said), ("goes on", said_plainly(name, text, 0, len(said))))
                    self.assertEqual(len(said) > 100, name == "chant" and text != "")
                else:
                    self.assertEqual((word, said), ("stops", self.all_said(name, text)))

    def test_those_that_guess_print_nothing(self):
        for name in GUESSING:
            self.assertTrue(all(rule[7] == "" for rule in MACHINES[name].rules))
            self.assertEqual(said_plainly(name, "abba", 0, 100), "")

    def test_those_that_are_not_told_to_print_print_nothing(self):
        for name in NAMES:
            self.assertEqual(any(rule[7] for rule in MACHINES[name].rules), name in PRINTING)

    def test_letters_far_on(self):
        rng = random.Random(733)
        for n in (61, 399, 400):
            text = "".join(rng.choice("abc") for _ in range(n))
            for first in (0, 5, 10 ** 6, 2 ** n - 20, 2 ** n - 3, 2 ** n, 2 ** n + 7, 10 ** 200):
                for size in (0, 1, 2, 10, 10000):
                    for name in ("doubling", "chant", "backwards", "rounds", "mirrored"):
                        told = said_plainly(name, text, first, first + size)
                        self.assertEqual(told, said_between(Book(MACHINES[name], text), first, first + size), (name, first, size))
                    expected = "a" * max(0, min(size, 2 ** n - first))
                    self.assertEqual(said_plainly("doubling", text, first, first + size), expected)
                    told = said_plainly("chant", text, first, first + size)
                    self.assertEqual(told, "".join(text[(first + at) % n] for at in range(size)))

    def test_no_letter(self):
        for name in NAMES:
            for first, last in ((0, 0), (5, 5), (5, 4), (10 ** 30, 0), (10 ** 30, 10 ** 30)):
                self.assertEqual(said_plainly(name, "abcab", first, last), "")
        self.assertEqual(said_plainly("chant", "", 0, 100), "")
        self.assertEqual(said_plainly("doubling", "", 0, 100), "a")
        self.assertEqual(said_plainly("backwards", "", 0, 100), "")


class EndlessRunsTest(unittest.TestCase):
    def test_rounds_grows(self):
        for text in ("a", "cb", "abcabc", "a" * 400):
            book = Book(MACHINES["rounds"], text)
            before, period, _, _, growth = loop(book)
            self.assertGreater(len(growth), 0)
            many = standing_at(book, before + 10 ** 30 * period)
            self.assertGreaterEqual(height_of(many[2]), 10 ** 30)
            self.assertEqual(letters_said(book), 0)
        self.assertEqual(Book(MACHINES["rounds"], "").answer(), "endless")

    def test_chant_says_the_text_once_a_round(self):
        for text in ("a", "cb", "abcabc", "ab" * 200):
            book = Book(MACHINES["chant"], text)
            before, period, *_ = loop(book)
            self.assertEqual(plain_run(MACHINES["chant"], text, before + 3 * period)[3].count(text[:1]) // text.count(text[:1]), 3)

    def test_the_run_of_doubling_is_long(self):
        for n in (1, 5, 61, 400):
            book = Book(MACHINES["doubling"], "b" * n)
            book.ask()
            self.assertGreater(book.entry((0, 0, ""))[1], 2 ** n)
            self.assertEqual(letters_said(book), 2 ** n)
            self.assertLessEqual(len(book.worked), surfaces_at_most(MACHINES["doubling"], n))


class ErrorsTest(unittest.TestCase):
    def test_names_come_first(self):
        for name in STRANGE:
            for function in (named_text, named, lambda name: plainly(name, "a"), lambda name: said_plainly(name, "a", 0, 5),
                             lambda name: plainly(name, None), lambda name: said_plainly(name, None, 0, 5)):
                with self.assertRaises(NoSuchProgram) as caught:
                    function(name)
                self.assertIs(caught.exception.name, name)

    def test_texts(self):
        wrong = ("c" * 401, "d", "ab>", "A", "a b", "\u00e4", None, True, 7, b"ab", ["a"], ("a", "b"), object())
        for name in NAMES:
            most = 40 if name in GUESSING else 400
            for text in ("a" * most, "c" * (most - 1)):
                self.assertEqual(plainly(name, text), told_plainly(name, text[:40]) if name != "power" else "no")
                self.assertEqual(len(said_plainly(name, text, 0, 5)), 5 if name in PRINTING else 0)
            for text in ("a" * (most + 1),) + wrong:
                for function in (plainly, lambda name, text: said_plainly(name, text, 0, 5),
                                 lambda name, text: said_plainly(name, text, 5, 0)):
                    with self.assertRaises(BadText) as caught:
                        function(name, text)
                    self.assertIs(caught.exception.text, text)


if __name__ == "__main__":
    unittest.main()
