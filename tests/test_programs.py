"""Points 46 and 47: programs as trees."""

import unittest

from pilerecall.errors import BadTree, DoubleName, NoSuchProcedure
from pilerecall.programs import Program
from tests.test_rows import lists
from tests.trees import deep_condition, drawn_trees, nested

RESERVED = (
    "to end left right pop yes no push here say call if then else while do either or halt not and at top none same"
).split()
ODD = [None, True, 7, 1.5, b"a", object(), {}, {"a": 1}, "", (), []]


def main(*statements):
    """A tree of one procedure with these statements."""
    return (("main", statements),)


def asking(condition):
    """A tree with the condition."""
    return main(("while", condition, ()))


def fault(procedures):
    """The index of the BadTree that a tree raises, or None."""
    try:
        Program(procedures)
    except BadTree as error:
        return error.index
    return None


def simple(number):
    """So many statements."""
    return (("right",),) * number


class RightTreesTest(unittest.TestCase):
    def test_every_statement_and_condition(self):
        statements = [(word,) for word in ("left", "right", "pop", "yes", "no")]
        statements += [("push", mark) for mark in ("a", "z", "A", "Z", "here")]
        statements += [("say", letter) for letter in ("a", "z", "here")]
        statements += [("call", "main"), ("halt", "yes"), ("halt", "no"), ("either", (), ()), ("while", ("same",), ())]
        conditions = [("call", "main"), ("at", "<"), ("at", ">"), ("at", "a"), ("at", "z"), ("top", "a"), ("top", "Z"),
                      ("top", ""), ("same",), ("not", ("same",)), ("not", ("not", ("call", "main"))),
                      ("and", ("same",), ("at", "<")), ("or", ("not", ("same",)), ("and", ("same",), ("same",)))]
        statements += [("if", condition, (("left",),), (("right",), ("pop",))) for condition in conditions]
        statements += [("while", condition, (("either", (("left",),), (("right",),)),)) for condition in conditions]
        tree = main(*statements)
        self.assertEqual(Program(tree).procedures, tree)
        for statement in statements:
            self.assertEqual(Program(main(statement)).procedures, main(statement))
            self.assertIsNone(fault(lists(main(statement))))

    def test_tuples_at_every_level(self):
        def all_tuples(value):
            return not isinstance(value, list) and (isinstance(value, str) or all(all_tuples(part) for part in value))

        for tree in drawn_trees(91, 60):
            passed, kept = lists(tree), lists(tree)
            program = Program(procedures=passed)
            self.assertEqual(program.procedures, tree)
            self.assertTrue(all_tuples(program.procedures))
            self.assertEqual(passed, kept)
            passed[0][1].append(["left"])
            passed[0][0] = "other"
            self.assertEqual(program.procedures, tree)

    def test_names(self):
        for name in ("a", "main", "abcdefghijkl", "zzzzzzzzzzzz", "tops", "en"):
            self.assertIsNone(fault([(name, [("call", name)])]))

    def test_equal_programs(self):
        trees = drawn_trees(92, 40)
        for tree in trees:
            for other in trees:
                self.assertIs(Program(tree) == Program(lists(other)), tree == other)
        self.assertFalse(Program(main()) == main())
        self.assertFalse(Program(main()) == None)  # noqa: E711
        self.assertTrue(Program(main()) != Program(main(("left",))))


class BadTreeTest(unittest.TestCase):
    def check_bad(self, tree, index=0):
        with self.subTest(str(tree)[:200]), self.assertRaises(BadTree) as caught:
            Program(tree)
        self.assertEqual(caught.exception.index, index)

    def test_no_procedures(self):
        self.check_bad(())
        self.check_bad([])

    def test_what_is_no_procedure(self):
        right = ("main", ())
        wrong = ODD + ["ma", ("main",), ("main", (), ()), ((), "main"), ("main", None), ("main", "left"), ("main", 3)]
        wrong += [("main", {"left": 1}), {"main": (), "f": ()}, right[::-1]]
        wrong += [(name, ()) for name in ODD + RESERVED]
        wrong += [(name, ()) for name in ("abcdefghijklm", "Main", "main1", "ma in", "a_b", "f\n", "\u00e4", "\u0430")]
        for one in wrong:
            self.check_bad([one])
            self.check_bad((right, one), 1)
            self.check_bad([("f", []), right, one, one], 2)

    def test_what_is_no_statement(self):
        wrong = ODD + ["left", ("Left",), ("left", ()), ("right", "a"), ("pop", None), ("yes", "yes"), ("no",) * 2]
        wrong += [("up",), ("end",), ("push",), ("push", "a", "b"), ("say",), ("say", "a", "b"), ("call",), ("halt",)]
        wrong += [("push", mark) for mark in ODD + ["ab", "1", "<", "none", "Here", "\u00e4", ["a"]]]
        wrong += [("say", letter) for letter in ODD + ["A", "ab", "1", "<", "none", "\u00e4", ["a"]]]
        wrong += [("call", name) for name in ODD + RESERVED + ["Main", "abcdefghijklm"]]
        wrong += [("call", "main", ()), ("halt", "here"), ("halt", ""), ("halt", None), ("halt", True), ("halt", "yes", "no")]
        wrong += [("stop", "yes"), ("give", "no"), ("", "yes"), ("left", "no"), ("if", "yes")]
        wrong += [("if",), ("if", ("same",)), ("if", ("same",), ()), ("if", ("same",), (), (), ()), ("while", ("same",))]
        wrong += [("while", ("same",), (), ()), ("either",), ("either", ()), ("either", (), (), ()), ("either", ("same",), ())]
        wrong += [(("left",),), ("not", ("same",)), ("at", "a"), ("same",), ("test",)]
        for one in wrong:
            self.check_bad(main(one))
            self.check_bad(main(("right",), ("either", (), (("if", ("same",), (), (one,)),))))
            self.check_bad(main(("while", ("same",), [one])))

    def test_what_is_no_block(self):
        for one in ODD[:9] + ["left", ("left",)]:
            self.check_bad(main(("if", ("same",), one, ())))
            self.check_bad(main(("if", ("same",), (), one)))
            self.check_bad(main(("while", ("same",), one)))
            self.check_bad(main(("either", one, ())))
            self.check_bad(main(("either", (), one)))

    def test_what_is_no_condition(self):
        same, call = ("same",), ("call", "main")
        wrong = ODD + ["same", ("same", "a"), ("Same",), ("at",), ("at", "a", "b"), ("top",), ("top", "a", "b"), (same,)]
        wrong += [("at", sign) for sign in ODD + ["A", "ab", "<>", "none", "here", "\u00e4"]]
        wrong += [("top", mark) for mark in ODD if mark != ""] + [("top", mark) for mark in ("ab", "1", "none", "here", "<")]
        wrong += [("not",), ("not", same, same), ("not", "same"), ("not", ()), ("and",), ("and", same), ("and", same, same, same)]
        wrong += [("maybe", same), ("and", ("maybe", same), same), ("or", same, ("left", same)), ("or", ("", same), same)]
        wrong += [("or",), ("or", same), ("or", same, same, same), ("xor", same, same), ("left",), ("push", "a")]
        wrong += [("call",), ("call", "main", "main"), ("call", "end"), ("call", ""), ("call", None), ("call", ["main"])]
        # A test is a condition without a call.
        for word in ("and", "or"):
            wrong += [(word, call, same), (word, same, call), (word, same, ("not", call)), (word, ("not", ("not", call)), same)]
            wrong += [("not", (word, call, same)), (word, same, (word, same, call))]
            wrong += [(word, one, same) for one in ODD] + [(word, same, one) for one in ODD]
        for one in wrong:
            self.check_bad(asking(one))
            self.check_bad(main(("if", one, (), ())))
            self.check_bad(asking(("not", ("not", one))))

    def test_values_that_compare_in_their_own_way(self):
        class Same:
            def __eq__(self, other):
                return True

        odd = Same()
        for tree in (main((odd,)), main((odd, "a")), main(("push", odd)), main(("halt", odd)), main(("say", odd)),
                     asking((odd,)), asking(("top", odd)), asking(("at", odd)), ((odd, ()),), (("main", odd),), main(odd)):
            with self.assertRaises(BadTree):
                Program(tree)


class BoundsTest(unittest.TestCase):
    def test_statements_nested_8_deep(self):
        for word in ("while", "either"):
            self.assertIsNone(fault((("main", nested(8, word=word)),)))
            self.assertIsNone(fault((("main", simple(3) + nested(8, word=word) + nested(8, word=word)),)))
            self.assertEqual(fault((("main", nested(9, word=word)),)), 0)
            self.assertEqual(fault((("f", ()), ("main", simple(2) + nested(9, word=word)))), 1)
            self.assertEqual(fault((("main", nested(60, word=word)),)), 0)
        # A statement with empty blocks may stand 8 deep, too.
        self.assertIsNone(fault((("main", nested(8, (("if", ("same",), (), ()),))),)))
        self.assertEqual(fault((("main", nested(8, (("if", ("same",), (), simple(1)),))),)), 0)

    def test_conditions_nested_8_deep(self):
        for word in ("not", "and", "or"):
            self.assertIsNone(fault(asking(deep_condition(8, word=word))))
            self.assertEqual(fault(asking(deep_condition(9, word=word))), 0)
            self.assertEqual(fault(asking(deep_condition(3000, word=word))), 0)
            self.assertIsNone(fault(main(("if", deep_condition(8, word=word), simple(1), simple(1)))))
            self.assertEqual(fault(main(("if", deep_condition(9, word=word), simple(1), simple(1)))), 0)
            # Within an and, too, each not is one level more.
            self.assertIsNone(fault(asking(("and", deep_condition(7, word=word), deep_condition(7, word=word)))))
            for tree in (("and", deep_condition(8, word=word), ("same",)), ("or", ("same",), deep_condition(8, word=word))):
                self.assertEqual(fault(asking(tree)), 0)
                self.assertEqual(fault(asking(tree[:1] + tree[:0:-1])), 0)
        self.assertIsNone(fault(asking(deep_condition(8, ("call", "main")))))
        self.assertEqual(fault(asking(deep_condition(9, ("call", "main")))), 0)
        left = ("same",)
        for _ in range(7):
            left = ("or", left, ("same",))
        self.assertIsNone(fault(asking(left)))
        self.assertEqual(fault(asking(("or", left, ("same",)))), 0)
        # The depth of a condition has nothing to do with that of its statement.
        self.assertIsNone(fault((("main", nested(8, (("while", deep_condition(8), ()),))),)))

    def test_300_statements(self):
        self.assertIsNone(fault((("main", simple(300)),)))
        self.assertEqual(fault((("main", simple(301)),)), 0)
        self.assertIsNone(fault((("main", simple(100)), ("f", ()), ("g", simple(200)))))
        self.assertEqual(fault((("main", simple(100)), ("f", ()), ("g", simple(201)), ("h", ()))), 2)
        self.assertEqual(fault((("main", simple(300)), ("f", ()), ("g", ()), ("h", simple(1)))), 3)
        inner = ("if", ("same",), simple(149), simple(150))
        self.assertIsNone(fault(main(inner)))
        self.assertEqual(fault(main(inner, ("left",))), 0)
        self.assertEqual(fault(main(("either", (), (inner,)))), 0)
        self.assertEqual(fault(main(("while", ("same",), simple(299)), ("left",))), 0)
        self.assertIsNone(fault(main(("while", ("same",), simple(299)))))

    def test_40_procedures(self):
        names = [a + b for a in "abcdefg" for b in "uvwxyz"]
        tree = [(name, ()) for name in names]
        self.assertIsNone(fault(tree[:40]))
        self.assertEqual(fault(tree[:41]), 40)
        self.assertEqual(fault(tree[:42]), 40)
        self.assertEqual(fault(tree[:39] + [None] + tree[:2]), 39)
        self.assertEqual(fault(tree[:40] + [None]), 40)

    def test_trees_that_contain_themselves(self):
        block = [["right"]]
        block.append(["if", ["same"], block, block])
        self.assertEqual(fault([["main", block]]), 0)
        condition = ["not"]
        condition.append(condition)
        self.assertEqual(fault(asking(condition)), 0)
        condition = ["and"]
        condition.extend([condition, condition])
        self.assertEqual(fault(asking(condition)), 0)

    def test_wide_trees_are_left_early(self):
        block = simple(1)
        for _ in range(7):
            block = (("either", block, block),) * 50
        self.assertEqual(fault((("main", block),)), 0)


class NamesTest(unittest.TestCase):
    def test_double_names(self):
        for tree, name in (
            ((("a", ()), ("a", ())), "a"),
            ((("a", ()), ("b", ()), ("b", ()), ("a", ())), "b"),
            ([("a", (("call", "no" "where"),)), ("b", ()), ("c", ()), ("a", ())], "a"),
        ):
            with self.assertRaises(DoubleName) as caught:
                Program(tree)
            self.assertEqual(caught.exception.name, name)

    def test_lacking_names(self):
        call = [("call", name) for name in "pqrstuv"]
        trees = (
            (main(call[0]), "p"),
            (main(("call", "main"), call[1], call[0]), "q"),
            (main(("if", call[0], (call[1],), (call[2],))), "p"),
            (main(("if", ("same",), (call[1],), (call[2],))), "q"),
            (main(("if", ("same",), (), (call[2],)), call[3]), "r"),
            (main(("while", ("not", ("not", call[4])), (call[1],))), "t"),
            (main(("while", ("same",), (("left",), call[1])), call[0]), "q"),
            (main(("either", (call[5],), (call[1],)), call[0]), "u"),
            (main(("either", (), (call[1],)), call[0]), "q"),
            (main(("either", (), (("if", ("not", call[6]), (), ()),)), call[0]), "v"),
            ((("f", (("call", "g"),)), ("g", (("call", "f"), call[2])), ("h", (call[0],))), "r"),
        )
        for tree, name in trees:
            with self.subTest(tree), self.assertRaises(NoSuchProcedure) as caught:
                Program(tree)
            self.assertEqual(caught.exception.name, name)

    def test_the_order_of_the_errors(self):
        lacking, double = ("a", (("call", "q"),)), ("a", ())
        with self.assertRaises(DoubleName):
            Program((lacking, double))
        self.assertEqual(fault((lacking, double, None)), 2)
        self.assertEqual(fault((lacking, double, ("b", simple(300)))), 2)
        with self.assertRaises(NoSuchProcedure):
            Program((lacking, ("b", ())))


if __name__ == "__main__":
    unittest.main()
