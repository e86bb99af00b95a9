"""Points 76 to 78: grammars."""

import random
import string
import unittest

from pilerecall.errors import BadGrammar, BadMachine, BadText
from pilerecall.grammars import derivation_size, grammar_machine
from pilerecall.machines import Machine
from pilerecall.nets import Net
from pilerecall.prices import least_yes

CAPITALS = string.ascii_uppercase
STRANGE = (None, True, 7, 1.5, "", "A", "Aa", b"Aa", [], (), ["A"], ("A",), ("A", "a", "b"), {"A": "a"}, object())


def draw_grammar(rng, letters, names=3, pairs=5, most=3):
    """A drawn grammar; some capitals of its bodies may be no names."""
    capitals = CAPITALS[:rng.randint(1, names)]
    marks = list(letters) * 2 + list(capitals) * 2 + list("Q" if rng.random() < 0.2 else "")
    return [(rng.choice(capitals), "".join(rng.choice(marks) for _ in range(rng.randint(0, most))))
            for _ in range(rng.randint(1, pairs))]


def draw_text(rng, grammar, most, letters="ab"):
    """A text of at most so many letters, most of the time one that a row of drawn replacements derives."""
    for _ in range(20 if rng.random() < 0.8 else 0):
        form = grammar[0][0]
        for _ in range(30):
            at = next((at for at, mark in enumerate(form) if mark in CAPITALS), None)
            bodies = [body for name, body in grammar if at is not None and name == form[at]]
            if not bodies or len(form) > most + 8:
                break
            form = form[:at] + rng.choice(bodies) + form[at + 1:]
        if len(form) <= most and form.islower():
            return form
    return "".join(rng.choice(letters) for _ in range(rng.randint(0, most)))


def search_derivations(grammar, text, steps):
    """The least number of replacements, up to so many, by a search of all derivations; None if none is found.

    The leftmost capital is replaced first, which costs no more than any other order. A string may be left out
    whose letters before it are not those of the text, or that can't become short enough.
    """
    forms = {grammar[0][0]}
    for number in range(steps + 1):
        if text in forms:
            return number
        longer = set()
        for form in forms:
            at = next((at for at, mark in enumerate(form) if mark in CAPITALS), None)
            if at is not None and text.startswith(form[:at]):
                for name, body in grammar:
                    if name == form[at] and len(form) - 1 + len(body) - len(text) <= steps - number - 1:
                        longer.add(form[:at] + body + form[at + 1:])
        forms = longer
    return None


def plain_size(grammar, text):
    """The number by rounds over all names and parts of the text, until nothing becomes less."""
    n = len(text)
    sizes = {(letter, at, at + 1): 0 for at, letter in enumerate(text)}
    changed = True
    while changed:
        changed = False
        for name, body in grammar:
            for begin in range(n + 1):
                # For each end the least number for the characters of the body so far.
                ends = {begin: 0}
                for mark in body:
                    more = {}
                    for middle, size in ends.items():
                        for end in range(middle, n + 1):
                            if (mark, middle, end) in sizes:
                                more[end] = min(size + sizes[(mark, middle, end)], more.get(end, 10 ** 40))
                    ends = more
                for end, size in ends.items():
                    if size + 1 < sizes.get((name, begin, end), 10 ** 40):
                        sizes[(name, begin, end)] = size + 1
                        changed = True
    return sizes.get((grammar[0][0], 0, n))


def plain_rules(letters, grammar):
    """The rules of point 77, as a set, and the number of states."""
    signs = "<>" + letters
    capitals = {mark for name, body in grammar for mark in name + body if mark in CAPITALS}
    rules = {(0, "<", "", 1, 1, "push", grammar[0][0], ""), (1, ">", "", 2, 0, "keep", "", "")}
    rules |= {(1, x, x, 1, 1, "pop", "", "") for x in letters}
    s = 3
    for name, body in grammar:
        m = len(body)
        for sign in signs:
            rules.add((1, sign, name, s if m else 1, 0, "pop", "", ""))
            for i in range(m):
                for top in {""} | set(letters) | capitals:
                    rules.add((s + i, sign, top, s + i + 1 if i < m - 1 else 1, 0, "push", body[m - 1 - i], ""))
        s += m
    return rules, s


class SizesTest(unittest.TestCase):
    def test_small_grammars(self):
        brackets = [("S", "aSb"), ("S", "")]
        for n in range(21):
            self.assertEqual(derivation_size(letters="ab", grammar=brackets, text="a" * n + "b" * n), n + 1)
        for text in ("a", "b", "ba", "aab", "abab"):
            self.assertIsNone(derivation_size("ab", brackets, text))
        self.assertEqual(derivation_size("a", [("A", "a")], "a"), 1)
        self.assertEqual(derivation_size("a", [("A", "aaaaaa"), ("A", "aa")], "aa"), 1)
        self.assertIsNone(derivation_size("a", [("A", "aaaaaa"), ("A", "aa")], ""))

    def test_beside_a_search_of_all_derivations(self):
        rng = random.Random(710)
        found = {"none": 0, "one": 0, "some": 0}
        for _ in range(400):
            grammar = draw_grammar(rng, "ab", 3, 7)
            text = draw_text(rng, grammar, 4)
            expected = search_derivations(grammar, text, 7)
            told = derivation_size("ab", grammar, text)
            if expected is None:
                self.assertTrue(told is None or told > 7, (grammar, text))
                found["none"] += told is None
            else:
                self.assertEqual(told, expected, (grammar, text))
                found["one" if told == 1 else "some"] += 1
        self.assertTrue(min(found.values()) > 30, found)

    def test_beside_rounds_over_all_parts(self):
        rng = random.Random(711)
        found = {"none": 0, "short": 0, "long": 0}
        for number in range(400):
            grammar = draw_grammar(rng, "ab", 6, 14, 4 if number % 2 else 6)
            text = draw_text(rng, grammar, 7)
            told = derivation_size("ab", grammar, text)
            self.assertEqual(told, plain_size(grammar, text), (grammar, text))
            found["none" if told is None else "short" if told < 4 else "long"] += 1
        self.assertTrue(min(found.values()) > 20, found)

    def test_longer_texts(self):
        rng = random.Random(712)
        for _ in range(15):
            grammar = draw_grammar(rng, "ab", 4, 8, 3) + [("A", "AA"), ("A", "b"), ("A", "a" * rng.randint(0, 2))]
            text = "".join(rng.choice("ab") for _ in range(rng.randint(10, 20)))
            self.assertEqual(derivation_size("ab", grammar, text), plain_size(grammar, text))

    def test_names_that_derive_themselves(self):
        for grammar in ([("S", "S")], [("S", "SS")], [("S", "T"), ("T", "S")]):
            for text in ("", "a"):
                self.assertIsNone(derivation_size("a", grammar, text))
        grammar = [("S", "S"), ("S", "T"), ("T", "S"), ("T", "U"), ("U", "SS"), ("U", "a"), ("U", "")]
        self.assertEqual(derivation_size("a", grammar, ""), 3)
        self.assertEqual(derivation_size("a", grammar, "a"), 3)
        self.assertEqual(derivation_size("a", grammar, "aa"), 3 + 3 + 3)

    def test_capitals_that_are_no_names(self):
        self.assertIsNone(derivation_size("a", [("S", "aQ"), ("S", "Q")], "a"))
        self.assertEqual(derivation_size("a", [("S", "aQ"), ("S", "Q"), ("S", "a")], "a"), 1)
        self.assertEqual(derivation_size("a", [("S", "aQ"), ("Q", "")], "a"), 2)

    def test_the_start_is_the_first_name(self):
        self.assertEqual(derivation_size("ab", [("B", "b"), ("A", "a")], "b"), 1)
        self.assertIsNone(derivation_size("ab", [("B", "b"), ("A", "a")], "a"))

    def test_empty_bodies(self):
        # The empty text comes from the empty parts of a row.
        self.assertEqual(derivation_size("a", [("S", "ABAB"), ("A", ""), ("B", "AA")], ""), 1 + 2 + 2 * 3)
        self.assertEqual(derivation_size("a", [("S", "ABAB"), ("A", ""), ("B", "AA"), ("B", "a")], "a"), 1 + 2 + 3 + 1)
        # Parts that stay empty count also around a name that derives all.
        self.assertEqual(derivation_size("a", [("S", "EESE"), ("S", "a"), ("E", "")], "a"), 1)
        self.assertEqual(derivation_size("a", [("S", "EETE"), ("T", "EaE"), ("E", "")], "a"), 1 + 3 + 1 + 2)

    def test_numbers_of_twenty_digits(self):
        row = [(CAPITALS[at], CAPITALS[at + 1] * 6) for at in range(25)]
        size = sum(6 ** at for at in range(26))
        self.assertEqual(len(str(size)), 20)
        self.assertEqual(derivation_size("a", row + [("Z", "")], ""), size)
        self.assertIsNone(derivation_size("a", row, ""))
        # One Z becomes a letter, which takes as many.
        self.assertEqual(derivation_size("a", row + [("Z", ""), ("Z", "a")], "a"), size)
        self.assertEqual(derivation_size("ab", row + [("Z", ""), ("Z", "a"), ("Z", "b")], "ab" * 20), size)
        # A name in the middle of the row that may become the text itself saves only its own part.
        shorter = size - sum(6 ** at for at in range(16)) + 1
        self.assertEqual(derivation_size("a", row + [("Z", ""), ("K", "aa")], "aa"), shorter)

    def test_40_letters_by_40_pairs(self):
        # All texts are derived in many ways.
        pairs = [("S", "SSSSSS"), ("S", "SSSSS"), ("S", "ST"), ("T", "TSTSTS"), ("S", "a"), ("S", "b"), ("T", "b"), ("T", "a")]
        pairs += [("S", "STSTS"[:size] + CAPITALS[at]) for size in range(1, 6) for at in range(6)] + [("S", ""), ("T", "")]
        self.assertEqual(len(pairs), 40)
        self.assertEqual(derivation_size("ab", pairs, "ab" * 20), plain_six(40))
        self.assertEqual(derivation_size("a", [("S", "SS"), ("S", "a")], "a" * 40), 79)

    def test_lists_and_tuples(self):
        grammar = [["S", "aSb"], ("S", "")]
        self.assertEqual(derivation_size("ab", grammar, "ab"), 2)
        self.assertEqual(derivation_size("ab", tuple(grammar), "ab"), 2)
        self.assertEqual(grammar_machine("ab", grammar), grammar_machine("ab", (("S", "aSb"), ["S", ""])))
        self.assertEqual(grammar, [["S", "aSb"], ("S", "")])


def plain_six(n):
    """How many replacements S needs for n letters if a body has at most six characters, each of which may be S."""
    # Each S that is replaced by six more of them adds five; each letter takes a replacement of its own.
    return n + -(-(n - 1) // 5)


class MachinesTest(unittest.TestCase):
    def test_a_small_machine_in_full(self):
        told = grammar_machine(letters="a", grammar=[("S", "aT"), ("T", ""), ("S", "Q")])
        self.assertEqual((told.letters, told.states, told.yes), ("a", 6, (2,)))
        rules = [(0, "<", "", 1, 1, "push", "S", ""), (1, "a", "a", 1, 1, "pop", "", ""), (1, ">", "", 2, 0, "keep", "", "")]
        for sign in "<a>":
            rules += [(1, sign, "S", 3, 0, "pop", "", ""), (1, sign, "T", 1, 0, "pop", "", ""), (1, sign, "S", 5, 0, "pop", "", "")]
            for top in ("", "a", "S", "T", "Q"):
                rules += [(3, sign, top, 4, 0, "push", "T", ""), (4, sign, top, 1, 0, "push", "a", ""),
                          (5, sign, top, 1, 0, "push", "Q", "")]
        self.assertEqual(told.rules, tuple(sorted(rules)))

    def test_drawn_grammars(self):
        rng = random.Random(720)
        for _ in range(150):
            letters = rng.choice(["a", "ab", "bz", "abc"])
            grammar = draw_grammar(rng, letters, 4, 7, 6)
            rules, states = plain_rules(letters, grammar)
            self.assertEqual(grammar_machine(letters, grammar), Machine(letters, states, list(rules), [2]))

    def test_least_yes(self):
        rng = random.Random(721)
        found = {"none": 0, "some": 0}
        for number in range(150):
            grammar = draw_grammar(rng, "ab", 3, 4, 2 + number % 2)
            machine = grammar_machine("ab", grammar)
            for _ in range(2):
                text = draw_text(rng, grammar, 3)
                size, net = derivation_size("ab", grammar, text), Net(machine, text)
                self.assertEqual(net.answer(), "no" if size is None else "yes")
                self.assertEqual(least_yes(net), None if size is None else 2 * len(text) + 2 * size + 1)
                found["none" if size is None else "some"] += 1
        self.assertTrue(min(found.values()) > 50, found)

    def test_least_yes_of_twenty_digits(self):
        row = [(CAPITALS[at], CAPITALS[at + 1] * 6) for at in range(25)] + [("Z", "")]
        size = derivation_size("a", row, "")
        self.assertEqual(least_yes(Net(grammar_machine("a", row), "")), 2 * size + 1)

    def test_forty_pairs(self):
        pairs = [(CAPITALS[at % 20], "a" * (at % 7)) for at in range(40)]
        rules, states = plain_rules("ab", pairs)
        self.assertEqual(grammar_machine("ab", pairs), Machine("ab", states, list(rules), [2]))


class ErrorsTest(unittest.TestCase):
    def check_grammar(self, grammar, index, letters="ab"):
        for function in (grammar_machine, lambda letters, grammar: derivation_size(letters, grammar, "a"),
                         lambda letters, grammar: derivation_size(letters, grammar, None)):
            with self.assertRaises(BadGrammar) as caught:
                function(letters, grammar)
            self.assertEqual(caught.exception.index, index)

    def check_refused(self, where, function, *given):
        with self.assertRaises(BadMachine) as caught:
            function(*given)
        self.assertEqual(caught.exception.where, where)

    def test_letters_come_first(self):
        for letters in (None, True, 7, "", "ba", "aa", "A", "a b", ["a"], ("a", "b"), b"ab", "ab>", "\u00e4", object()):
            for grammar in ([], [None], [("S", "a")], [("S", "")] * 41):
                self.check_refused("letters", grammar_machine, letters, grammar)
                self.check_refused("letters", derivation_size, letters, grammar, None)

    def test_no_pair(self):
        self.check_grammar([], 0)
        self.check_grammar((), 0)

    def test_pairs_of_any_kind(self):
        for value in STRANGE:
            self.check_grammar([value], 0)
            self.check_grammar([("S", "a"), ["T", ""], value, None], 2)

    def test_names(self):
        for name in (None, True, 7, "", "a", "AB", "1", "<", "\u00c4", " ", b"A", ["A"], ("A",), object()):
            self.check_grammar([("S", "a"), (name, "a")], 1)

    def test_bodies(self):
        for body in (None, True, 7, "c", "abc", "a b", "1", "<", "\u00c4", "aaaaaaa", "SSSSSSS", b"a", ["a"], ("a",), object()):
            self.check_grammar([("S", "a"), ("S", body)], 1)
        for body in ("", "a", "b", "S", "Z", "abSZab", "SSSSSS"):
            self.assertEqual(grammar_machine("ab", [("S", body)]).states, 3 + len(body))
        self.check_grammar([("S", "b")], 0, "a")

    def test_40_and_41_pairs(self):
        right = [("S", "a")] * 40
        self.assertEqual(grammar_machine("ab", right).states, 43)
        self.assertEqual(derivation_size("ab", right, "a"), 1)
        for last in (("S", "a"), None):
            self.check_grammar(right + [last], 40)
            self.check_grammar(right + [last] * 3, 40)
        for index in (0, 17, 39):
            self.check_grammar(right[:index] + [None] + right[index:], index)

    def test_texts(self):
        for text in (None, True, 7, "c", "ab>", "A", "S", ["a"], ("a", "b"), b"ab", "a" * 41, "a" * 401, object()):
            with self.assertRaises(BadText) as caught:
                derivation_size("ab", [("S", "SS"), ("S", "a")], text)
            self.assertIs(caught.exception.text, text)
        self.assertEqual(derivation_size("ab", [("S", "SS"), ("S", "a")], "a" * 40), 79)
        self.assertIsNone(derivation_size("ab", [("S", "SS"), ("S", "a")], "b" * 40))

    def pairs(self):
        """Thirty-nine different pairs over abc with twenty capitals and 165 characters, and so 20000 rules."""
        pairs = [("A", "")] + [(CAPITALS[at % 20], "abcS"[:1 + at % 4]) for at in range(38)]
        missing, grown = 165 - sum(len(body) for _, body in pairs), []
        for name, body in pairs[::-1]:
            more = min(missing, 6 - len(body)) if body else 0
            grown.append((name, body + "a" * more))
            missing -= more
        return grown[::-1]

    def test_rules(self):
        pairs = self.pairs()
        self.assertEqual((len(pairs), sum(len(body) for _, body in pairs)), (39, 165))
        self.assertEqual(len(plain_rules("abc", pairs)[0]), 20000)
        self.assertEqual(len(grammar_machine("abc", pairs).rules), 20000)
        # Another pair without a body has five rules, unless there is the same one.
        self.assertEqual(len(grammar_machine("abc", pairs + [("A", "")]).rules), 20000)
        self.check_refused("rules", grammar_machine, "abc", pairs + [("B", "")])
        self.check_refused("rules", grammar_machine, "abc", pairs + [("B", "a")])
        self.check_refused("rules", grammar_machine, "abcdefghijklmnopqrstuvwxyz", pairs)
        # There is no such bound for the number of replacements.
        self.assertEqual(derivation_size("abcdefghijklmnopqrstuvwxyz", pairs + [("A", "z")], "z"), 1)

    def test_hundreds_of_thousands_of_rules(self):
        pairs = [(CAPITALS[at % 26], "ABCDEF") for at in range(40)]
        letters = "abcdefghijklmnopqrstuvwxyz"
        self.check_refused("rules", grammar_machine, letters, pairs)
        self.check_grammar(pairs + [("A", "")], 40, letters)
        self.assertIsNone(derivation_size(letters, pairs, "z"))


if __name__ == "__main__":
    unittest.main()
