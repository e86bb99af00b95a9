"""Points 52 and 53: the nodes of programs."""

import unittest

from pilerecall.flows import flow
from pilerecall.programs import Program
from pilerecall.reading import read_program
from tests.plainmeaning import PlainFlow
from tests.trees import drawn_trees, nested

SAME = ("same",)


def nodes(block, more=""):
    """The nodes of a program of one procedure and perhaps more."""
    return flow(read_program(f"to main {block} end {more}"))


class NodesTest(unittest.TestCase):
    def test_example(self):
        program = read_program("to main right while not at > do push here right end end")
        self.assertEqual(flow(program=program), (("move", 1, 1), ("test", ("not", ("at", ">")), 2, 4), ("push", "here", 3),
                                                 ("move", 1, 1), ("give", "yes")))

    def test_statements_without_blocks(self):
        self.assertEqual(nodes(""), (("give", "yes"),))
        told = nodes("left right push a push here pop say b say here call main yes no halt yes halt no")
        self.assertEqual(told, (
            ("move", -1, 1), ("move", 1, 2), ("push", "a", 3), ("push", "here", 4), ("pop", 5), ("say", "b", 6),
            ("say", "here", 7), ("call", 0, 8, 8), ("give", "yes"), ("give", "no"), ("halt", "yes"), ("halt", "no"),
            ("give", "yes")))

    def test_if(self):
        self.assertEqual(nodes("if same then left right else pop end no"), (
            ("test", SAME, 1, 3), ("move", -1, 2), ("move", 1, 4), ("pop", 4), ("give", "no"), ("give", "yes")))
        self.assertEqual(nodes("if same then end"), (("test", SAME, 1, 1), ("give", "yes")))
        self.assertEqual(nodes("if same then left end no"),
                         (("test", SAME, 1, 2), ("move", -1, 2), ("give", "no"), ("give", "yes")))
        self.assertEqual(nodes("if same then else left end no"),
                         (("test", SAME, 2, 1), ("move", -1, 2), ("give", "no"), ("give", "yes")))

    def test_while(self):
        self.assertEqual(nodes("while same do end"), (("test", SAME, 0, 1), ("give", "yes")))
        self.assertEqual(nodes("while same do left right end no"),
                         (("test", SAME, 1, 3), ("move", -1, 2), ("move", 1, 0), ("give", "no"), ("give", "yes")))
        # The last statement of a while's block goes back to the while, through the blocks that it stands in, too.
        self.assertEqual(nodes("while same do if at a then left else end end"),
                         (("test", SAME, 1, 3), ("test", ("at", "a"), 2, 0), ("move", -1, 0), ("give", "yes")))
        self.assertEqual(nodes("while same do while at a do end end pop"),
                         (("test", SAME, 1, 2), ("test", ("at", "a"), 1, 0), ("pop", 3), ("give", "yes")))

    def test_either(self):
        self.assertEqual(nodes("either or end"), (("guess", 1, 1), ("give", "yes")))
        self.assertEqual(nodes("either left or pop end no"),
                         (("guess", 1, 2), ("move", -1, 3), ("pop", 3), ("give", "no"), ("give", "yes")))
        self.assertEqual(nodes("while same do either or left end end"),
                         (("test", SAME, 1, 3), ("guess", 0, 2), ("move", -1, 0), ("give", "yes")))

    def test_calls(self):
        more = "to f end to g left call f end"
        self.assertEqual(nodes("call g call f", more), (
            ("call", 4, 1, 1), ("call", 3, 2, 2), ("give", "yes"), ("give", "yes"), ("move", -1, 5), ("call", 3, 6, 6),
            ("give", "yes")))
        for nots in range(5):
            told = nodes(f"if {'not ' * nots} call g then left else pop end", more)
            self.assertEqual(told[0], ("call", 5, 2, 1) if nots % 2 else ("call", 5, 1, 2))
            told = nodes(f"while {'not ' * nots} call f do left end", more)
            self.assertEqual(told[0], ("call", 3, 2, 1) if nots % 2 else ("call", 3, 1, 2))

    def test_whole_conditions(self):
        told = nodes("if not ( at a or top none ) and not same then end")
        self.assertEqual(told[0][1], ("and", ("not", ("or", ("at", "a"), ("top", ""))), ("not", SAME)))

    def test_deep_statements(self):
        tree = (("main", nested(8)),)
        told = flow(Program(tree))
        self.assertEqual(told[:7], tuple(("test", SAME, at + 1, at - 1 if at else 8) for at in range(7)))
        self.assertEqual(told[7:], (("move", -1, 6), ("give", "yes")))


class PlainTest(unittest.TestCase):
    def test_drawn_programs(self):
        for tree in drawn_trees(131, 300, levels=4, most=5):
            told = flow(Program(tree))
            self.assertEqual(told, PlainFlow(tree).nodes())
            self.assertIs(type(told), tuple)
            self.assertTrue(all(type(node) is tuple for node in told))


if __name__ == "__main__":
    unittest.main()
