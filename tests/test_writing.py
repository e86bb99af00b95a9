"""Point 49: programs written as text."""

import unittest

from pilerecall.programs import Program
from pilerecall.reading import read_program
from pilerecall.writing import write_program
from tests.trees import deep_condition, drawn_trees, nested, tree_tokens

A, B, C = ("at", "a"), ("top", ""), ("same",)


def written(*statements):
    """The written form of a program of one procedure, without the lines around its block."""
    lines = write_program(Program((("main", statements),))).split("\n")
    assert lines[0] == "to main" and lines[-2:] == ["end", ""]
    return lines[1:-2]


def written_condition(condition):
    """A condition as it is written."""
    line = written(("while", condition, ()))[0]
    assert line.startswith("  while ") and line.endswith(" do")
    return line[8:-3]


class StatementsTest(unittest.TestCase):
    def test_examples(self):
        text = "to main\n  right\n  while not at > do\n    push here\n    right\n  end\nend\n"
        self.assertEqual(write_program(read_program("to main right while not at > do push here right end end")), text)
        self.assertEqual(write_program(program=read_program(text)), text)

    def test_statements_without_blocks(self):
        statements = (("left",), ("right",), ("pop",), ("yes",), ("no",), ("push", "a"), ("push", "Z"), ("push", "here"),
                      ("say", "k"), ("say", "here"), ("call", "main"), ("halt", "yes"), ("halt", "no"))
        self.assertEqual(written(*statements), ["  " + " ".join(statement) for statement in statements])
        self.assertEqual(written(), [])

    def test_if(self):
        left, pop = (("left",),), (("pop",),)
        self.assertEqual(written(("if", C, (), ())), ["  if same then", "  end"])
        self.assertEqual(written(("if", C, left, ())), ["  if same then", "    left", "  end"])
        self.assertEqual(written(("if", C, (), pop)), ["  if same then", "  else", "    pop", "  end"])
        self.assertEqual(written(("if", C, left * 2, pop)),
                         ["  if same then", "    left", "    left", "  else", "    pop", "  end"])

    def test_while_and_either(self):
        left, pop = (("left",),), (("pop",),)
        self.assertEqual(written(("while", C, ())), ["  while same do", "  end"])
        self.assertEqual(written(("while", C, left), ("pop",)), ["  while same do", "    left", "  end", "  pop"])
        self.assertEqual(written(("either", (), ())), ["  either", "  or", "  end"])
        self.assertEqual(written(("either", left, ())), ["  either", "    left", "  or", "  end"])
        self.assertEqual(written(("either", (), pop)), ["  either", "  or", "    pop", "  end"])

    def test_statements_within_statements(self):
        inner = ("if", ("call", "main"), (("either", (("yes",),), (("no",),)),), (("while", ("not", A), (("left",),)),))
        self.assertEqual(written(("while", C, (inner, ("pop",)))), [
            "  while same do", "    if call main then", "      either", "        yes", "      or", "        no", "      end",
            "    else", "      while not at a do", "        left", "      end", "    end", "    pop", "  end"])
        lines = written(*nested(8))
        self.assertEqual(lines, [" " * 2 * (level + 1) + "while same do" for level in range(7)] + [" " * 16 + "left"]
                         + [" " * 2 * (level + 1) + "end" for level in range(6, -1, -1)])

    def test_several_procedures(self):
        program = Program([["f", []], ["main", [["call", "f"]]], ["z", []]])
        self.assertEqual(write_program(program), "to f\nend\nto main\n  call f\nend\nto z\nend\n")


class ConditionsTest(unittest.TestCase):
    def test_conditions_without_brackets(self):
        for condition, text in (
            (("call", "main"), "call main"), (("at", "<"), "at <"), (("at", "a"), "at a"), (("top", "Z"), "top Z"),
            (B, "top none"), (C, "same"), (("not", C), "not same"), (("not", ("not", C)), "not not same"),
            (("not", ("not", ("call", "main"))), "not not call main"), (("and", A, B), "at a and top none"),
            (("or", A, B), "at a or top none"), (("and", ("not", A), ("not", B)), "not at a and not top none"),
            (("or", ("not", A), ("not", B)), "not at a or not top none"),
        ):
            self.assertEqual(written_condition(condition), text)

    def test_where_brackets_stand(self):
        for condition, text in (
            (("not", ("and", A, B)), "not ( at a and top none )"), (("not", ("or", A, B)), "not ( at a or top none )"),
            (("not", ("not", ("or", A, B))), "not not ( at a or top none )"),
            (("and", ("and", A, B), C), "at a and top none and same"),
            (("and", A, ("and", B, C)), "at a and ( top none and same )"),
            (("or", ("or", A, B), C), "at a or top none or same"), (("or", A, ("or", B, C)), "at a or ( top none or same )"),
            (("and", ("or", A, B), C), "( at a or top none ) and same"),
            (("and", A, ("or", B, C)), "at a and ( top none or same )"),
            (("or", ("and", A, B), C), "at a and top none or same"), (("or", A, ("and", B, C)), "at a or top none and same"),
            (("or", ("and", A, B), ("and", B, C)), "at a and top none or top none and same"),
            (("and", ("or", A, B), ("or", B, C)), "( at a or top none ) and ( top none or same )"),
            (("or", ("or", A, B), ("or", B, C)), "at a or top none or ( top none or same )"),
            (("and", ("and", A, B), ("and", B, C)), "at a and top none and ( top none and same )"),
            (("or", ("and", A, ("or", B, C)), A), "at a and ( top none or same ) or at a"),
            (("and", ("not", ("or", A, B)), C), "not ( at a or top none ) and same"),
            (("or", A, ("not", ("and", B, ("and", C, A)))), "at a or not ( top none and ( same and at a ) )"),
        ):
            self.assertEqual(written_condition(condition), text)


class ReadingBackTest(unittest.TestCase):
    def test_drawn_programs(self):
        for tree in drawn_trees(111, 200, levels=4):
            program = Program(tree)
            text = write_program(program)
            self.assertLessEqual(len(text), 20000)
            self.assertEqual(read_program(text), program)
            self.assertEqual(write_program(read_program(text)), text)
            # Apart from brackets the tokens are those of the tree.
            def bare(tokens):
                return [token for token in tokens if token not in ("(", ")")]

            self.assertEqual(bare(text.split()), bare(tree_tokens(tree)))
            self.assertTrue(all(line == line.rstrip() and "  " not in line.lstrip() for line in text.split("\n")))

    def test_the_deepest_conditions_can_be_read(self):
        for word in ("not", "and", "or"):
            for inner in (C, ("or", A, B), ("and", A, B), ("not", A)):
                program = Program((("main", (("while", deep_condition(8 - (inner != C), inner, word), ()),)),))
                self.assertEqual(read_program(write_program(program)), program)
        both = A
        for level in range(7):
            both = ("not", both) if level % 2 else ("or", B, both)
        program = Program((("main", (("if", both, (), ()),)),))
        self.assertEqual(read_program(write_program(program)), program)

    def test_a_long_written_form(self):
        condition = A
        for _ in range(7):
            condition = ("and", condition, condition)
        program = Program((("main", (("while", condition, ()),) * 300),))
        text = write_program(program)
        self.assertGreater(len(text), 20000)
        self.assertEqual(len(text.split("\n")), 603)


if __name__ == "__main__":
    unittest.main()
