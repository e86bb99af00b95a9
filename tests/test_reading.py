"""Points 45 and 48: programs read from their texts."""

import random
import unittest

from pilerecall.errors import BadToken, BadTree, DoubleName, NoSuchProcedure
from pilerecall.programs import Program
from pilerecall.reading import read_program
from tests.prefixes import RESERVED, START, after, first_bad
from tests.trees import drawn_trees, tree_tokens

WORDS = RESERVED + ["(", ")", "<", ">", "a", "Z", "main", "zz", "7"]


def bad_token(text):
    """The place of the BadToken that a text raises, or None; errors of trees count as none."""
    try:
        read_program(text)
    except BadToken as error:
        return error.place
    except (BadTree, DoubleName, NoSuchProcedure):
        pass
    return None


def block_of(text):
    """The block that a text writes."""
    return read_program(f"to main {text} end").procedures[0][1]


def condition_of(text):
    """The condition that a text writes."""
    return block_of(f"while {text} do end")[0][1]


def plain_test(tokens):
    """The tree of a test, found by splitting its tokens at the last word or, then at the last and."""
    for word in ("or", "and"):
        depth = 0
        for at in range(len(tokens) - 1, -1, -1):
            depth += (tokens[at] == ")") - (tokens[at] == "(")
            if depth == 0 and tokens[at] == word:
                return (word, plain_test(tokens[:at]), plain_test(tokens[at + 1:]))
    if tokens[0] == "not":
        return ("not", plain_test(tokens[1:]))
    if tokens[0] == "(":
        return plain_test(tokens[1:-1])
    return tuple("" if token == "none" else token for token in tokens)


def draw_tokens(rng, levels):
    """The tokens of a test in which brackets stand anywhere."""
    tokens = []
    for _ in range(rng.choice([1, 1, 2, 3, 4])):
        if tokens:
            tokens.append(rng.choice(["and", "or"]))
        tokens += ["not"] * rng.choice([0, 0, 0, 1, 2])
        if levels and rng.random() < 0.5:
            tokens += ["("] + draw_tokens(rng, levels - 1) + [")"]
        else:
            tokens += rng.choice([["at", "<"], ["at", "a"], ["top", "Z"], ["top", "none"], ["same"], ["at", "t"]])
    return tokens


class FormsTest(unittest.TestCase):
    def test_example(self):
        program = read_program("to main right while not at > do push here right end end")
        self.assertIsInstance(program, Program)
        expected = (("right",), ("while", ("not", ("at", ">")), (("push", "here"), ("right",))))
        self.assertEqual(program.procedures, (("main", expected),))
        self.assertEqual(read_program(text="to a end"), Program([("a", ())]))

    def test_statements(self):
        for text in ("left", "right", "pop", "yes", "no", "push a", "push Z", "push here", "say z", "say here",
                     "call main", "halt yes", "halt no"):
            self.assertEqual(block_of(text), (tuple(text.split()),))
        self.assertEqual(block_of("left right left"), (("left",), ("right",), ("left",)))
        self.assertEqual(block_of(""), ())
        self.assertEqual(block_of("if same then end"), (("if", ("same",), (), ()),))
        self.assertEqual(block_of("if same then else end"), (("if", ("same",), (), ()),))
        self.assertEqual(block_of("if same then left else pop yes end no"),
                         (("if", ("same",), (("left",),), (("pop",), ("yes",))), ("no",)))
        self.assertEqual(block_of("while same do left end"), (("while", ("same",), (("left",),)),))
        self.assertEqual(block_of("either or end"), (("either", (), ()),))
        self.assertEqual(block_of("either left or pop either or no end end"),
                         (("either", (("left",),), (("pop",), ("either", (), (("no",),)))),))

    def test_conditions(self):
        self.assertEqual(condition_of("call main"), ("call", "main"))
        self.assertEqual(condition_of("not not call main"), ("not", ("not", ("call", "main"))))
        for sign in ("<", ">", "a", "z"):
            self.assertEqual(condition_of(f"at {sign}"), ("at", sign))
        for mark in ("a", "z", "A", "Z"):
            self.assertEqual(condition_of(f"top {mark}"), ("top", mark))
        self.assertEqual(condition_of("top none"), ("top", ""))
        self.assertEqual(condition_of("same"), ("same",))
        a, b, c = ("at", "a"), ("at", "b"), ("at", "c")
        for text, tree in (
            ("at a or at b or at c", ("or", ("or", a, b), c)), ("at a and at b and at c", ("and", ("and", a, b), c)),
            ("at a or at b and at c", ("or", a, ("and", b, c))), ("at a and at b or at c", ("or", ("and", a, b), c)),
            ("at a or ( at b or at c )", ("or", a, ("or", b, c))), ("( at a or at b ) and at c", ("and", ("or", a, b), c)),
            ("not at a and at b", ("and", ("not", a), b)), ("not ( at a and at b )", ("not", ("and", a, b))),
            ("not not ( at a )", ("not", ("not", a))), ("( ( ( at a ) ) )", a), ("( not at a ) or not at b",
                                                                                ("or", ("not", a), ("not", b))),
        ):
            self.assertEqual(condition_of(text), tree)

    def test_drawn_tests(self):
        rng = random.Random(101)
        read = 0
        for _ in range(400):
            tokens = draw_tokens(rng, 2)
            try:
                condition = condition_of(" ".join(tokens))
            except BadTree:
                continue
            self.assertEqual(condition, plain_test(tokens))
            read += 1
        self.assertGreater(read, 300)

    def test_drawn_trees(self):
        for tree in drawn_trees(102, 150):
            self.assertEqual(read_program(" ".join(tree_tokens(tree))).procedures, tree)

    def test_spaces_and_newlines(self):
        tokens = "to main if at < then push here end end to f call main end".split()
        expected = read_program(" ".join(tokens))
        for text in ("\n".join(tokens), "   " + "  ".join(tokens) + "   ", "\n\n" + " \n ".join(tokens) + "\n"):
            self.assertEqual(read_program(text), expected)
        # No other character parts tokens.
        for mark in ("\t", "\r", "\u00a0", "\v", "\f"):
            self.assertEqual(bad_token("to main left" + mark + "right end"), 2)
            self.assertEqual(bad_token("to main" + mark + " end"), 1)


class BadTokenTest(unittest.TestCase):
    def test_some_places(self):
        for text, place in (
            ("", 0), (" \n ", 0), ("main", 0), ("to", 1), ("to to", 1), ("to main", 2), ("to main end to", 4),
            ("to main end end", 3), ("to main left", 3), ("to main up end", 2), ("to main else end", 2), ("to main or end", 2),
            ("to main push", 3), ("to main push end", 3), ("to main push ab", 3), ("to main push 1", 3), ("to main say A", 3),
            ("to main say none", 3), ("to main push none", 3), ("to main call end", 3), ("to main call abcdefghijklm", 3),
            ("to main halt here", 3), ("to main if then", 3), ("to main if same do", 4), ("to main while same then", 4),
            ("to main if same", 4), ("to main if same and", 5), ("to main if same and then", 5), ("to main if ( same then", 5),
            ("to main if same )", 4), ("to main if ( )", 4), ("to main if at", 4), ("to main if at A", 4), ("to main if at <>", 4),
            ("to main if at none", 4), ("to main if top here", 4), ("to main if top <", 4), ("to main if not then", 4),
            ("to main if call main and", 5), ("to main if same or call", 5), ("to main if not call main or", 6),
            ("to main if ( call main", 4), ("to main if not ( call", 5), ("to main if not same and call", 6),
            ("to main if same then or end", 5), ("to main if same then else else", 6), ("to main if same then do", 5),
            ("to main while same do else", 5), ("to main either end", 3), ("to main either or or", 4), ("to main either or", 4),
            ("to main either or else", 4), ("to main end left", 3), ("to Main end", 1), ("to main1 end", 1), ("to if end", 1),
            ("to abcdefghijklm end", 1), ("To main end", 0), ("to main left end to main right 7", 7),
        ):
            with self.subTest(text):
                self.assertEqual(bad_token(text), place)
                self.assertEqual(first_bad(text.split()), place)

    def test_beginnings_and_changed_texts(self):
        rng = random.Random(103)
        found = {}
        for tree in drawn_trees(104, 120):
            tokens = tree_tokens(tree)
            for _ in range(20):
                other = list(tokens)
                for _ in range(rng.choice([0, 1, 1, 2])):
                    at = rng.randrange(len(other) + 1)
                    other[at:at + rng.choice([0, 1, 1])] = rng.choice([[], [rng.choice(WORDS)], [rng.choice(WORDS)]])
                if rng.random() < 0.3:
                    del other[rng.randrange(len(other) + 1):]
                expected = first_bad(other)
                self.assertEqual(bad_token(" ".join(other)), expected, other)
                kind = expected if expected is None else expected == len(other)
                found[kind] = found.get(kind, 0) + 1
        self.assertTrue(len(found) == 3 and min(found.values()) > 100, found)

    def test_drawn_words(self):
        rng = random.Random(105)
        for _ in range(1200):
            tokens, stacks = [], START
            while stacks and len(tokens) < 30:
                word = rng.choice(WORDS)
                behind = after(stacks, word)
                if behind or rng.random() < 0.01:
                    tokens.append(word)
                    stacks = behind
            expected = (None if () in stacks else len(tokens)) if stacks else len(tokens) - 1
            self.assertEqual(bad_token(" ".join(tokens)), expected, tokens)

    def test_statements_nested_9_deep(self):
        for heads in (["if same then"], ["while same do"], ["either"], ["either or"], ["if same then else"]):
            head = heads[0]
            eight = " ".join([head] * 7)
            size = 2 + 7 * len(head.split())
            for word in ("left", "push", "say", "call", "halt", "if", "while", "either", "yes"):
                # Eight deep it may stand, nine deep it may not.
                self.assertNotEqual(bad_token(f"to main {eight} {word}"), size)
                self.assertEqual(bad_token(f"to main {eight} {head} {word}"), size + len(head.split()))
            tail = {"either": "or end"}.get(head, "end")
            self.assertIsNone(bad_token(f"to main {eight} {head} {tail}" + f" {tail}" * 7 + " end"))
            self.assertIsNone(bad_token(f"to main {eight} left right" + f" {tail}" * 7 + " left end"))

    def test_a_ninth_open_not_or_bracket(self):
        for opening in (["not"] * 8, ["("] * 8, ["not", "("] * 4, ["(", "not"] * 4, ["not"] * 3 + ["("] * 5):
            head = "to main while " + " ".join(opening)
            for word in ("not", "("):
                self.assertEqual(bad_token(f"{head} {word}"), 11)
                self.assertEqual(bad_token(f"{head} {word} same"), 11)
            self.assertEqual(bad_token(f"{head} same"), 12)
            closing = " )" * opening.count("(")
            self.assertIsNone(bad_token(f"{head} same{closing} do end end"))
            # What is closed no longer counts.
            self.assertIsNone(bad_token(f"{head} same{closing} and {' '.join(opening)} same{closing} do end end"))
        self.assertIsNone(bad_token("to main while " + "not " * 8 + "call main do end end"))
        self.assertEqual(bad_token("to main while " + "not " * 9 + "call main do end end"), 11)
        self.assertEqual(bad_token("to main while ( " + "not same and " * 30 + "not " * 7 + "( same"), 3 + 1 + 90 + 7)
        self.assertIsNone(bad_token("to main while ( " + "not same and " * 30 + "not " * 7 + "same ) do end end"))

    def test_20000_characters(self):
        text = "to main left end"
        self.assertIsNone(bad_token(text + " " * (20000 - len(text))))
        self.assertEqual(bad_token(text + " " * (20001 - len(text))), -1)
        self.assertEqual(bad_token("?" * 20000), 0)
        self.assertEqual(bad_token("?" * 20001), -1)
        self.assertEqual(bad_token("\n" * 20001), -1)


class LongTextsTest(unittest.TestCase):
    def test_long_rows(self):
        def index_of(text):
            self.assertLessEqual(len(text), 20000)
            with self.assertRaises(BadTree) as caught:
                read_program(text)
            return caught.exception.index

        self.assertEqual(index_of("to main while same" + " or same" * 2400 + " do end end"), 0)
        self.assertEqual(index_of("to main while same" + " and same" * 2200 + " do end end"), 0)
        self.assertEqual(index_of("to f end to main while same" + " and not same or same" * 900 + " do end end"), 1)
        self.assertEqual(index_of("to main" + " left" * 3900 + " end"), 0)
        self.assertEqual(index_of("to main" + " if same then end" * 1100 + " end"), 0)
        self.assertEqual(index_of("to f end " * 2200), 40)
        self.assertEqual(bad_token("to main while same" + " or same" * 2400), 4 + 4800)
        self.assertEqual(bad_token("to main while same" + " or same" * 2400 + " end"), 4 + 4800)
        self.assertEqual(bad_token("to main" + " left" * 3900), 3902)
        self.assertEqual(bad_token("to main" + " left" * 3900 + " up"), 3902)
        self.assertEqual(bad_token("to f end " * 2200 + "to"), 6601)
        self.assertEqual(bad_token("to f end " * 2200 + "f"), 6600)
        self.assertEqual(bad_token("to main while " + "not " * 4000), 11)
        self.assertEqual(bad_token("to main " + "either " * 2000), 10)

    def test_the_bounds_of_programs_come_behind(self):
        # Depth 9 by eight nots and a test: the tokens are right, the tree is not.
        with self.assertRaises(BadTree):
            read_program("to main while " + "not " * 8 + "same do end end")
        self.assertIsNotNone(read_program("to main while " + "not " * 7 + "same do end end"))
        with self.assertRaises(BadTree) as caught:
            read_program("to f end to main" + " left" * 301 + " end")
        self.assertEqual(caught.exception.index, 1)
        with self.assertRaises(DoubleName) as caught:
            read_program("to f call q end to g end to f end")
        self.assertEqual(caught.exception.name, "f")
        with self.assertRaises(NoSuchProcedure) as caught:
            read_program("to f if not call q then call r end end")
        self.assertEqual(caught.exception.name, "q")
        self.assertEqual(bad_token("to f call q end to f end to"), 9)


if __name__ == "__main__":
    unittest.main()
