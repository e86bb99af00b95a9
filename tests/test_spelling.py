"""Points 56 and 61: machines that read letters as words."""

import random
import unittest

from pilerecall.books import Book, answer
from pilerecall.errors import BadCode, BadMachine
from pilerecall.machines import Machine
from pilerecall.running import plain_run
from pilerecall.spelling import spelled
from pilerecall.standings import moves
from tests.helpers import after_rule, cases, guessing, pairs, plain_steps, rules_at, twice

STRANGE = (None, True, 7, 1.5, "", "a", "ab", b"ab", [], (), ["a"], ("a",), ("a", "b", "a"), {"a": "b"}, object(),
           {"a", "b"})


def draw_code(rng, letters, most=3):
    """A code for some letters."""
    code = []
    for letter in sorted(rng.sample("abcxyz", rng.randint(1, most)), key=lambda _: rng.random()):
        code.append((letter, "".join(rng.choice(letters) for _ in range(rng.randint(1, 4)))))
    return code


def written_out(code, text):
    """The text in which each letter is replaced by its word."""
    return "".join(dict(code)[letter] for letter in text)


def seen_as(code, text, standing):
    """The standing of the machine for a standing of the spelled machine, by the words of point 61."""
    words = [dict(code)[letter] for letter in text]
    width = max(len(word) for _, word in code) + 1
    number, place, stack = standing
    state, part = divmod(number, width)
    before = sum(len(word) for word in words[:place - 1])
    if place == 0 or place == len(text) + 1:
        # Both numbers stand for the end sign itself.
        assert part in (0, width - 1)
        return (state, 0 if place == 0 else sum(len(word) for word in words) + 1, stack)
    word = words[place - 1]
    assert part < len(word) or part == width - 1
    return (state, before + 1 + (len(word) - 1 if part == width - 1 else part), stack)


def plain_spelled(machine, code):
    """The rules of point 61, one new key after the other, as a set."""
    words = dict(code)
    width = max(map(len, words.values()))
    rules = set()
    for state, sign, top, after, move, *rest in machine.rules:
        for new in "<>" + "".join(words):
            for part in range(width + 1):
                if new in "<>":
                    if new == sign and part in (0, width):
                        to = {1: 0, -1: width, 0: 0}[move]
                        rules.add((state * (width + 1) + part, new, top, after * (width + 1) + to, move, *rest))
                    continue
                word = words[new]
                at = len(word) - 1 if part == width else part
                if at >= len(word) or word[at] != sign:
                    continue
                to, by = at + move, 0
                if to < 0:
                    to, by = width, -1
                elif to == len(word):
                    to, by = 0, 1
                rules.add((state * (width + 1) + part, new, top, after * (width + 1) + to, by, *rest))
    return rules


class RulesTest(unittest.TestCase):
    def test_a_small_machine_in_full(self):
        machine = Machine("ab", 2, [(0, "<", "", 1, 1, "push", "A", "k"), (1, "a", "A", 0, -1, "pop", "", ""),
                                    (1, "b", "A", 1, 1, "swap", "B", "xyz"), (0, ">", "", 1, -1, "keep", "", ""),
                                    (0, ">", "A", 0, 0, "keep", "", "")], [1])
        told = spelled(machine=machine, code=[("z", "ab"), ["c", "a"]])
        self.assertEqual((told.letters, told.states, told.yes), ("cz", 6, (3, 4, 5)))
        self.assertEqual(set(told.rules), {
            (0, "<", "", 3, 1, "push", "A", "k"), (2, "<", "", 3, 1, "push", "A", "k"),
            (3, "z", "A", 2, -1, "pop", "", ""), (3, "c", "A", 2, -1, "pop", "", ""), (5, "c", "A", 2, -1, "pop", "", ""),
            (4, "z", "A", 3, 1, "swap", "B", "xyz"), (5, "z", "A", 3, 1, "swap", "B", "xyz"),
            (0, ">", "", 5, -1, "keep", "", ""), (2, ">", "", 5, -1, "keep", "", ""),
            (0, ">", "A", 0, 0, "keep", "", ""), (2, ">", "A", 0, 0, "keep", "", "")})

    def test_drawn_machines(self):
        rng = random.Random(301)
        widths = set()
        for many in (1, 2):
            for machine, _ in cases(302 + many, 60, many=many):
                code = draw_code(rng, machine.letters)
                told = spelled(machine, code)
                width = max(len(word) for _, word in code)
                widths.add(width)
                self.assertEqual(told.letters, "".join(sorted(letter for letter, _ in code)))
                self.assertEqual(told.states, machine.states * (width + 1))
                yes = [state for state in range(told.states) if state // (width + 1) in machine.yes]
                self.assertEqual(told.yes, tuple(yes))
                self.assertEqual(set(told.rules), plain_spelled(machine, code))
        self.assertEqual(widths, {1, 2, 3, 4})

    def test_the_order_of_the_code_does_not_count(self):
        code = [("b", "ab"), ("a", "bba"), ("z", "a")]
        self.assertEqual(spelled(pairs(), code), spelled(pairs(), tuple(list(pair) for pair in reversed(code))))
        self.assertEqual(code, [("b", "ab"), ("a", "bba"), ("z", "a")])

    def test_all_letters(self):
        letters = "abcdefghijklmnopqrstuvwxyz"
        told = spelled(pairs(), [(letter, "ab" if letter < "n" else "b") for letter in letters])
        self.assertEqual(told.letters, letters)

    def test_the_machine_itself_stays(self):
        machine = pairs()
        spelled(machine, [("a", "abab")])
        self.assertEqual(machine, pairs())


class RunsTest(unittest.TestCase):
    def test_plain_runs(self):
        rng = random.Random(311)
        words, lefts, rights = set(), 0, 0
        for machine, _ in cases(312, 300, fill=0.95):
            code = draw_code(rng, machine.letters)
            told = spelled(machine, code)
            text = "".join(rng.choice(code)[0] for _ in range(rng.randint(0, 4)))
            out = written_out(code, text)
            for limit in (0, 1, 2, 7, 60):
                word, steps, standing, said = plain_run(told, text, limit)
                self.assertEqual((word, steps, seen_as(code, text, standing), said), plain_run(machine, out, limit))
                words.add(word)
            self.assertEqual(answer(told, text), answer(machine, out))
            standings = plain_steps(told, text, (0, 0, ()), 60)[0]
            pasts = list(zip(standings, standings[1:]))
            # Moves between two letters of the text, out of a word to the left and to the right.
            lefts += sum(1 < one[1] <= len(text) and two[1] == one[1] - 1 for one, two in pasts)
            rights += sum(0 < one[1] < len(text) and two[1] == one[1] + 1 for one, two in pasts)
        self.assertEqual(words, {"stops", "goes on"})
        self.assertTrue(lefts > 50 and rights > 50, (lefts, rights))

    def test_each_step(self):
        rng = random.Random(313)
        for machine, _ in cases(314, 100, fill=0.95):
            code = draw_code(rng, machine.letters)
            text = "".join(rng.choice(code)[0] for _ in range(rng.randint(0, 4)))
            new = plain_steps(spelled(machine, code), text, (0, 0, ()), 80)
            old = plain_steps(machine, written_out(code, text), (0, 0, ()), 80)
            self.assertEqual([seen_as(code, text, one) for one in new[0]], old[0])
            self.assertEqual(new[1:], old[1:])

    def test_runs_of_machines_that_guess(self):
        rng = random.Random(315)
        for machine, _ in list(cases(316, 60, many=2, most_states=3)) + [(guessing(), "")]:
            code = draw_code(rng, machine.letters)
            told = spelled(machine, code)
            text = "".join(rng.choice(code)[0] for _ in range(rng.randint(0, 3)))
            new, old = {(0, 0, ())}, {(0, 0, ())}
            for _ in range(6):
                new = {after for one in new for after in moves(told, text, one)}
                old = {after for one in old for after in moves(machine, written_out(code, text), one)}
                self.assertEqual({seen_as(code, text, one) for one in new}, old)

    def test_texts_whose_words_are_longer_than_400_letters(self):
        code = [("a", "aaaa"), ("b", "bb")]
        machine = pairs()
        for n in (100, 101, 133, 134):
            for extra in (0, 1):
                text = "a" * n + "b" * (2 * n + extra)
                out = written_out(code, text)
                standing, steps = (0, 0, ()), 0
                while rules_at(machine, out, standing):
                    standing, steps = after_rule(standing, rules_at(machine, out, standing)[0]), steps + 1
                told = plain_run(spelled(machine, code), text[:400], 100000)
                if len(text) <= 400:
                    self.assertEqual((told[1], seen_as(code, text, told[2])), (steps, standing))
                    self.assertEqual(answer(spelled(machine, code), text), "no" if extra else "yes")

    def test_long_runs(self):
        book = Book(spelled(twice(), [("q", "aaa"), ("r", "aa")]), "qr" * 30)
        self.assertEqual(book.answer(), "yes")
        self.assertEqual(book.entry((0, 0, ""))[1], 5 * 2 ** 150 - 4)
        self.assertEqual(book.entry((0, 0, ""))[5], 2 ** 150)


class ErrorsTest(unittest.TestCase):
    def check_code(self, code, index, machine=None):
        with self.assertRaises(BadCode) as caught:
            spelled(machine or pairs(), code)
        self.assertEqual(caught.exception.index, index)

    def check_refused(self, machine, code, where):
        with self.assertRaises(BadMachine) as caught:
            spelled(machine, code)
        self.assertEqual(caught.exception.where, where)

    def test_no_item(self):
        self.check_code([], 0)
        self.check_code((), 0)

    def test_items_of_any_kind(self):
        for item in STRANGE:
            self.check_code([item], 0)
            self.check_code([("a", "a"), ("b", "b"), item, None], 2)

    def test_letters(self):
        for letter in (None, True, 1, "", "A", "ab", "1", "<", ">", "\u00e4", " ", b"a", ["a"], ("a",), object()):
            self.check_code([("a", "a"), (letter, "a")], 1)
        # Any letter may be spelled, also one that the machine has not.
        self.assertEqual(spelled(pairs(), [("q", "a")]).letters, "q")

    def test_words(self):
        for word in (None, True, 1, "", "aaaaa", "c", "ac", "A", "a b", "<", "\u00e4", b"a", ["a"], ("a", "b"), object()):
            self.check_code([("a", "a"), ("b", word)], 1)
        for word in ("a", "b", "ab", "bbb", "abab"):
            self.assertEqual(spelled(pairs(), [("b", word)]).states, 4 * (len(word) + 1))

    def test_a_letter_twice(self):
        self.check_code([("a", "a"), ("b", "b"), ("a", "a"), ("b", "b")], 2)
        self.check_code([("a", "a"), ["a", "b"]], 1)
        # A wrong item is no earlier item that has a letter: it comes first itself.
        self.check_code([("a", "c"), ("a", "a")], 0)

    def test_states(self):
        for width, most in ((1, 1000), (2, 666), (3, 500), (4, 400)):
            code = [("a", "a" * width), ("b", "a")]
            self.assertEqual(spelled(Machine("a", most, []), code).states, most * (width + 1))
            self.check_refused(Machine("a", most + 1, []), code, "states")
        self.check_refused(Machine("a", 2000, []), [("a", "a")], "states")

    def rules(self, sign, number, begin=0):
        """So many rules with a sign and different keys."""
        keys = [(state, "S" + str(top)) for state in range(400) for top in range(60)]
        return [(state, sign, top, 0, 0, "pop", "", "") for state, top in keys[begin:begin + number]]

    def test_rules(self):
        # An a within the word makes one rule, a last letter makes two, and so does an end sign.
        code = [("x", "ab")]
        for others in ([], self.rules("b", 1), self.rules("<", 1), self.rules(">", 1), self.rules("b", 5000)):
            fitting = 20000 - 2 * len(others)
            machine = Machine("ab", 400, self.rules("a", fitting) + others)
            self.assertEqual(len(spelled(machine, code).rules), 20000)
            if others:
                more = Machine("ab", 400, self.rules("a", fitting + 1) + others)
                self.check_refused(more, code, "rules")
        # Each item and each letter counts.
        code = [("x", "aab"), ("y", "ba"), ("z", "b")]
        self.assertEqual(len(spelled(Machine("ab", 400, self.rules("a", 5000)), code).rules), 20000)
        self.check_refused(Machine("ab", 400, self.rules("a", 5001)), code, "rules")
        self.assertEqual(len(spelled(Machine("ab", 400, self.rules("b", 4000)), code).rules), 20000)
        self.check_refused(Machine("ab", 400, self.rules("b", 4001)), code, "rules")
        # Letters that no word has make no rules at all.
        self.assertEqual(spelled(Machine("abc", 400, self.rules("c", 20000)), code).rules, ())

    def test_millions_of_rules(self):
        code = [(letter, "aaaa") for letter in "abcdefghijklmnopqrstuvwxyz"]
        self.check_refused(Machine("a", 400, self.rules("a", 20000)), code, "rules")

    def test_the_order_of_the_errors(self):
        many = self.rules("a", 20000)
        self.check_refused(Machine("a", 1001, many), [("a", "aaaa")], "states")
        self.check_code([("a", "aaaa"), ("a", "a")], 1, Machine("a", 2000, many))
        self.check_code([], 0, Machine("a", 2000, many))


if __name__ == "__main__":
    unittest.main()
