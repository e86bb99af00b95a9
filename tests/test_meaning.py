"""Points 50 and 51: what programs mean."""

import random
import unittest

from pilerecall.errors import BadText
from pilerecall.meaning import meaning
from pilerecall.programs import Program
from pilerecall.reading import read_program
from tests.helpers import random_text
from tests.plainmeaning import PlainMeaning
from tests.trees import drawn_trees


def told(block, text="", limit=1000, more="", **how):
    """The meaning of a program of one procedure and perhaps more."""
    return meaning(read_program(f"to main {block} end {more}"), text, limit, **how)


class MovesTest(unittest.TestCase):
    """Each result is (answer, place, said, moves); the last procedure's end takes one move and one for each mark."""

    def test_examples(self):
        program = read_program("to main right while not at > do push here right end end")
        self.assertEqual(meaning(program, "ab", 100), ("yes", 3, "", 11))
        self.assertEqual(meaning(program=program, text="ab", limit=100, choices=()), ("yes", 3, "", 11))

    def test_the_head_at_both_ends(self):
        for text in ("", "ab"):
            end = len(text) + 1
            self.assertEqual(told("", text), ("yes", 0, "", 1))
            self.assertEqual(told("left", text), ("yes", 0, "", 2))
            self.assertEqual(told("right", text), ("yes", 1, "", 2))
            self.assertEqual(told("right right right right right", text), ("yes", end, "", 6))
            self.assertEqual(told("right right right right right left", text), ("yes", end - 1, "", 7))

    def test_pushes_and_pops(self):
        self.assertEqual(told("push a push Z", "b"), ("yes", 0, "", 5))
        self.assertEqual(told("push a push Z pop", "b"), ("yes", 0, "", 5))
        self.assertEqual(told("pop pop"), ("yes", 0, "", 3))
        self.assertEqual(told("push a pop pop push b"), ("yes", 0, "", 6))
        # At < and > nothing is pushed by here.
        self.assertEqual(told("push here", "b"), ("yes", 0, "", 2))
        self.assertEqual(told("right push here right push here", "b"), ("yes", 2, "", 6))

    def test_prints(self):
        self.assertEqual(told("say a say z"), ("yes", 0, "az", 3))
        self.assertEqual(told("say here right say here right say here say q", "b"), ("yes", 2, "bq", 7))

    def test_answers(self):
        self.assertEqual(told("yes left"), ("yes", 0, "", 1))
        self.assertEqual(told("no say a"), ("no", 0, "", 1))
        self.assertEqual(told("push a push b push c no"), ("no", 0, "", 7))
        self.assertEqual(told("push a push b yes"), ("yes", 0, "", 5))
        self.assertEqual(told("halt yes say a"), ("yes", 0, "", 1))
        self.assertEqual(told("push a push b halt no"), ("no", 0, "", 3))

    def test_tests(self):
        cases = [("at <", 0, "", True), ("at >", 0, "", False), ("at b", 1, "", True), ("at a", 1, "", False),
                 ("at >", 2, "", True), ("at b", 0, "", False), ("top none", 0, "", True), ("top a", 0, "", False),
                 ("top none", 0, "push a", False), ("top a", 0, "push a", True), ("top A", 0, "push a", False),
                 ("top b", 1, "push a push here", True), ("same", 0, "", False), ("same", 0, "push b", False),
                 ("same", 1, "", False), ("same", 1, "push b", True), ("same", 1, "push B", False), ("same", 2, "push b", False),
                 ("same", 1, "push b push a", False)]
        for test, place, before, holds in cases:
            head = "right " * place + before
            moves = place + 2 * before.count("push")
            for text, expected in ((test, holds), (f"not {test}", not holds), (f"not not {test}", holds),
                                   (f"{test} and at <", holds and place == 0), (f"at < and {test}", holds and place == 0),
                                   (f"{test} or at <", holds or place == 0), (f"not ( at < or {test} )",
                                                                              not (holds or place == 0))):
                with self.subTest(head + " " + text):
                    self.assertEqual(told(f"{head} if {text} then yes end no", "b"),
                                     ("yes" if expected else "no", place, "", moves + 2))

    def test_if_and_while(self):
        self.assertEqual(told("if at < then say a end say b"), ("yes", 0, "ab", 4))
        self.assertEqual(told("if at > then say a end say b"), ("yes", 0, "b", 3))
        self.assertEqual(told("if at > then say a else say c say d end say b"), ("yes", 0, "cdb", 5))
        self.assertEqual(told("while not at > do right say here end say z", "abc"), ("yes", 4, "abcz", 5 + 8 + 2))
        self.assertEqual(told("while at > do say a end"), ("yes", 0, "", 2))
        self.assertEqual(told("right while at a do if at a then right no end end", "aa"), ("no", 2, "", 5))

    def test_calls(self):
        # A call takes one move, its answer one, and one more behind the marks of its own stack.
        self.assertEqual(told("call f", "", more="to f end"), ("yes", 0, "", 4))
        self.assertEqual(told("call f say a", "", more="to f push b push b right no end"), ("yes", 1, "a", 10))
        # The stack of the call is a new one, and the own one is there again behind it.
        self.assertEqual(told("push b call f if top b then say y end", "", more="to f if top none then say x end push c end"),
                         ("yes", 0, "xy", 12))
        self.assertEqual(told("call f say a", "", more="to f call g say b end to g say c end"), ("yes", 0, "cba", 10))

    def test_calls_as_conditions(self):
        for answer in ("yes", "no"):
            for nots in range(4):
                holds = (answer == "yes") == (nots % 2 == 0)
                condition = "not " * nots + "call f"
                more = f"to f push a {answer} end"
                self.assertEqual(told(f"if {condition} then say t else say e end", "", more=more),
                                 ("yes", 0, "t" if holds else "e", 7))
                if nots:
                    self.assertEqual(told(f"while not {condition} do say t no end", "", more=more),
                                     ("yes", 0, "", 6) if holds else ("no", 0, "t", 7))
        self.assertEqual(told("while call f do say a end say b", "aa", more="to f right if at > then no end end"),
                         ("yes", 3, "aab", 2 * 6 + 5 + 2))

    def test_the_end_of_a_block_is_a_yes(self):
        self.assertEqual(told("if call f then say y end", "", more="to f if at > then no end end"), ("yes", 0, "y", 6))

    def test_halt_within_calls(self):
        self.assertEqual(told("push a call f say x", "b", more="to f push c right call g say y end to g push d halt no end"),
                         ("no", 1, "", 7))
        self.assertEqual(told("if call f then say x end", "", more="to f halt yes end"), ("yes", 0, "", 2))

    def test_the_first_procedure_called_again(self):
        # The second call of main is no first call: its answer takes a move more and does not end the run.
        self.assertEqual(told("right if at > then yes end call main say here no", "ab"), ("no", 3, "", 15))
        program = read_program("to main if at > then say e else right call main say here left end end")
        self.assertEqual(meaning(program, "ab", 100), PlainMeaning(program.procedures, "ab", 100).told())

    def test_deep_calls(self):
        program = read_program("to main push a call main end")
        self.assertIsNone(meaning(program, "", 100000))
        program = read_program("to main call f end to f if at > then no end right call f end")
        self.assertEqual(meaning(program, "a" * 400, 100000), ("yes", 401, "", 2 + 401 * 5 + 3))


class ChoicesTest(unittest.TestCase):
    def test_choices(self):
        block = "either say a or say b end either say c or say d end either or say e end"
        for choices, said in (((), "ac"), ((0,), "ac"), ((1,), "bc"), ((0, 1), "ad"), ((1, 1, 1), "bde"), ((0, 0, 1, 1, 1), "ace"),
                              ([1, 0, 0], "bc")):
            self.assertEqual(told(block, choices=choices), ("yes", 0, said, 1 + 3 + len(said)))
            self.assertEqual(told(block, choices=list(choices)), told(block, choices=tuple(choices)))

    def test_each_either_that_is_done_takes_one(self):
        block = "while not at > do either say a or say b end right end"
        self.assertEqual(told(block, "cc", choices=[0, 1, 1])[2], "abb")
        self.assertEqual(told(block, "cc", choices=[1, 1])[2], "bba")
        # The choice of an either that is not done is left to the next one.
        block = "if at > then either say x or say y end end either say a or say b end"
        self.assertEqual(told(block, choices=[1])[2], "b")

    def test_choices_behind_the_last_one(self):
        self.assertEqual(told("either or say a end", choices=[1, None, "x", 7]), ("yes", 0, "a", 3))
        self.assertEqual(told("", choices=[None]), ("yes", 0, "", 1))

    def test_eithers_within_calls(self):
        more = "to f either call f or end say b either say c or say d end end"
        self.assertEqual(told("call f either say x or say y end", choices=[0, 1, 1, 0, 1], more=more)[2], "bdbcy")


class LimitsTest(unittest.TestCase):
    def test_limits(self):
        for block, text in (("", ""), ("push a push b no", ""), ("right while not at > do push here right end", "abab"),
                            ("call main2", "a"), ("push a halt yes", "")):
            program = read_program(f"to main {block} end to f end" if "main2" not in block else
                                   "to main call f end to f push a push b end")
            full = meaning(program, text, 100000)
            moves = full[3]
            self.assertEqual(meaning(program, text, moves), full)
            self.assertEqual(meaning(program, text, moves + 1), full)
            for limit in range(moves):
                self.assertIsNone(meaning(program, text, limit))

    def test_no_move_is_too_few(self):
        self.assertIsNone(told("", limit=0))
        self.assertEqual(told("", limit=1), ("yes", 0, "", 1))

    def test_programs_that_never_end(self):
        for block in ("while not call f do end", "while at < do end", "while not at > do left end", "call main",
                      "push a call main", "while at < do push a end", "while at < do say a end"):
            self.assertIsNone(told(block, "ab", limit=100000, more="to f no end"))


class PlainTest(unittest.TestCase):
    def test_drawn_programs(self):
        rng = random.Random(121)
        found = {True: 0, False: 0}
        for tree in drawn_trees(122, 400, levels=4, most=5):
            program = Program(tree)
            for _ in range(4):
                text = random_text(rng, "abc", 4)
                choices = [rng.randint(0, 1) for _ in range(rng.randint(0, 6))]
                limit = rng.choice([300, 300, rng.randint(0, 30)])
                expected = PlainMeaning(tree, text, limit, choices).told()
                self.assertEqual(meaning(program, text, limit, choices=choices), expected)
                found[expected is None] += 1
                if expected is not None:
                    self.assertEqual(meaning(program, text, expected[3], choices=choices), expected)
                    self.assertIsNone(meaning(program, text, expected[3] - 1, choices=choices))
        self.assertTrue(min(found.values()) > 200, found)


class TextsTest(unittest.TestCase):
    def test_bad_texts(self):
        program = read_program("to main end")
        for text in (None, True, 7, ["a"], ("a", "b"), b"ab", "A", "a b", "ab\n", "<", "a1", "\u00e4", "a" * 401, object(), {}):
            for limit in (0, 100):
                with self.subTest(text=text), self.assertRaises(BadText) as caught:
                    meaning(program, text, limit)
                self.assertIs(caught.exception.text, text)

    def test_texts_of_all_letters(self):
        self.assertEqual(told("right right say here", "xz")[2], "z")
        self.assertEqual(told("while not at > do right end", "q" * 400), ("yes", 401, "", 804))


if __name__ == "__main__":
    unittest.main()
