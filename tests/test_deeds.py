"""Points 43 and 44: deeds that are given as data."""

import random
import unittest

from pilerecall.books import Book, answer
from pilerecall.deeds import perform, within
from pilerecall.desks import Desk, Trial
from pilerecall.errors import BadDeed, BadSplice, NothingToUndo
from tests.helpers import cases, pairs, twice
from tests.test_desks import draw_splice, state_of
from tests.test_rows import lists


def trial_deep(levels, inner=(("answer",),)):
    """A deed that is so many trials deep."""
    deed = ("try", inner)
    for _ in range(levels - 1):
        deed = ("try", (deed,))
    return deed


def naive_perform(desk, deeds):
    """Does right deeds one by one, by the methods of the desk; answers are those of empty books."""
    results = []
    for deed in deeds:
        if deed[0] == "splice":
            results.append(desk.splice(*deed[1:]))
        elif deed[0] == "answer":
            results.append(answer(desk.machine, desk.text))
            desk.answer()
        elif deed[0] == "work":
            results.append((len(desk.book.worked), len(desk.book.recalled)))
        elif deed[0] == "undo":
            results.append(desk.undo())
        else:
            with Trial(desk):
                results.append(naive_perform(desk, deed[1]))
    return tuple(results)


def draw_deeds(rng, desk, splices, levels):
    """Right deeds for a desk on which so many splices can be undone, done on the desk as they are drawn."""
    deeds = []
    for _ in range(rng.randint(0, 6)):
        word = rng.choice(["splice", "splice", "answer", "work", "undo", "try"])
        if word == "undo" and desk.splices == 0 or word == "try" and levels == 0:
            word = "answer"
        if word == "splice":
            deeds.append(("splice",) + draw_splice(rng, desk))
            desk.splice(*deeds[-1][1:])
        elif word == "undo":
            deeds.append(("undo",))
            desk.undo()
        elif word == "try":
            with Trial(desk):
                deeds.append(("try", draw_deeds(rng, desk, desk.splices, levels - 1)))
        else:
            deeds.append((word,))
    return tuple(deeds)


WRONG = [
    None, 7, True, "", "answer", "undo", b"work", 1.5, object(), {}, {"answer": 1}, (), [], ((),), (None,), (1,), (True,),
    ("answer", None), ("answer", ()), ["undo", 1], ("work", 1), ("work",) * 2, ("Answer",), ("ANSWER",), ("",),
    ("splice",), ("splice", 1), ("splice", 1, 0), ("splice", 1, 0, "a", "b"), ("splice", (1, 0, "a")), ("redo",),
    (("answer",),), (["answer"],), (b"answer",),
    ("try",), ("try", None), ("try", "answer"), ("try", ""), ("try", 3), ("try", {}), ("try", ("answer",)), ("try", (), ()),
    ("try", [("answer",), None]), ("try", [("answer",), ("try", [("undo",), ("try", 0)])]),
    ("try", [("try", [("answer",)]), ("splice", 1)]), trial_deep(10, (None,)), trial_deep(3, ("undo",)),
    trial_deep(11), trial_deep(12), trial_deep(40), trial_deep(11, ()), trial_deep(2000, ()),
]


class ResultsTest(unittest.TestCase):
    def test_examples(self):
        desk = Desk(pairs(), "ab")
        trial = Trial(desk)
        self.assertEqual(perform(desk, [("answer",), ("splice", 1, 0, "a"), ("answer",)]), ("yes", 4, "no"))
        self.assertEqual(within(trial, [("splice", 4, 0, "b"), ("answer",), ("work",)]), (4, "yes", (4, 2)))
        self.assertEqual((desk.text, desk.splices), ("aab", 1))

    def test_each_deed(self):
        desk = Desk(pairs(), "ab")
        self.assertEqual(perform(desk, [("work",)]), ((0, 0),))
        self.assertEqual(perform(desk, [("answer",), ("work",)]), ("yes", (5, 0)))
        self.assertEqual(perform(desk, [("splice", 3, 0, "b")]), (3,))
        self.assertEqual((desk.text, desk.splices), ("abb", 1))
        self.assertEqual(perform(desk, [("work",), ("answer",), ("work",)]), ((0, 0), "no", (3, 1)))
        self.assertEqual(perform(desk, [("undo",)]), (None,))
        self.assertEqual((desk.text, desk.splices), ("ab", 0))
        self.assertEqual(perform(desk, []), ())
        self.assertEqual(perform(desk, [("try", [])]), ((),))
        self.assertEqual(perform(desk, (("try", (("splice", 1, 2, ""), ("answer",), ("undo",), ("answer",))),)),
                         ((2, "yes", None, "yes"),))
        self.assertEqual((desk.text, desk.splices), ("ab", 0))

    def test_the_work_of_the_present_book(self):
        desk = Desk(pairs(), "ab")
        desk.book.ask((2, 3, ""))
        told = perform(desk, [("work",), ("answer",), ("work",), ("splice", 1, 0, ""), ("work",), ("undo",), ("work",)])
        self.assertEqual(told, ((2, 0), "yes", (3, 1), 4, (0, 0), None, (3, 1)))

    def test_drawn_deeds(self):
        rng = random.Random(81)
        words = {}
        for machine, text in cases(82, 150, most_states=4):
            deeds = draw_deeds(rng, Desk(machine, text), 0, 3)
            desk, other = Desk(machine, text), Desk(machine, text)
            told = perform(desk, deeds)
            self.assertEqual(told, naive_perform(other, deeds))
            self.assertIs(type(told), tuple)
            self.assertEqual(state_of(desk)[0::2], state_of(other)[0::2])
            self.assertEqual(desk.answer(), answer(machine, desk.text))
            for deed in deeds:
                words[deed[0]] = words.get(deed[0], 0) + 1
        self.assertTrue(min(words.values()) > 20 and len(words) == 5, words)

    def test_lists_and_tuples_which_stay_as_they_are(self):
        deeds = (("answer",), ("try", (("splice", 1, 0, "a"), ("try", (("answer",), ("undo",))), ("work",))), ("work",))
        passed, kept = lists(deeds), lists(deeds)
        told = perform(Desk(pairs(), "ab"), passed)
        self.assertEqual(told, perform(desk=Desk(pairs(), "ab"), deeds=deeds))
        self.assertEqual(told, ("yes", (4, ("no", None), (4, 1)), (5, 0)))
        self.assertEqual(passed, kept)
        for value in (told, told[1], told[1][1], told[1][2]):
            self.assertIs(type(value), tuple)
        told = within(Trial(Desk(pairs(), "ab")), passed)
        self.assertEqual(told, within(trial=Trial(Desk(pairs(), "ab")), deeds=deeds))
        self.assertIs(type(told), tuple)
        self.assertEqual(passed, kept)

    def test_only_what_is_lacking_is_worked(self):
        n = 200
        desk = Desk(twice(), "a" * n)
        told = perform(desk, [("answer",), ("splice", 1, 1, ""), ("answer",), ("work",), ("undo",), ("work",)])
        whole = Book(twice(), "a" * n)
        whole.answer()
        self.assertEqual((told[0], told[2]), ("yes", "yes"))
        self.assertEqual(told[5], (len(whole.worked), len(whole.recalled)))
        self.assertLess(told[3][0], 20)


class BadDeedTest(unittest.TestCase):
    def test_what_is_no_deed(self):
        for number, wrong in enumerate(WRONG):
            for deeds, index in (
                ([wrong], 0), ((("answer",), wrong), 1), ([("splice", 1, 0, "a"), ("undo",), wrong, wrong], 2),
            ):
                desk = Desk(pairs(), "ab")
                kept = state_of(desk)
                with self.subTest(number=number, index=index):
                    with self.assertRaises(BadDeed) as caught:
                        perform(desk, deeds)
                    self.assertEqual(caught.exception.index, index)
                    with self.assertRaises(BadDeed) as caught:
                        within(Trial(desk), deeds)
                    self.assertEqual(caught.exception.index, index)
                    self.assertEqual(state_of(desk), kept)

    def test_trials_of_ten_levels(self):
        desk = Desk(pairs(), "ab")
        told = perform(desk, [trial_deep(10)])
        for _ in range(10):
            self.assertEqual(len(told), 1)
            told = told[0]
        self.assertEqual(told, ("yes",))
        within(Trial(desk), [trial_deep(10, (("splice", 1, 0, "a"), ("undo",)))])
        both = ("try", (trial_deep(9), trial_deep(4), trial_deep(9, ())))
        self.assertEqual(len(perform(desk, [both])[0]), 3)
        with self.assertRaises(BadDeed):
            perform(desk, [("try", (trial_deep(9), trial_deep(10)))])

    def test_the_index_is_that_of_the_outermost_deed(self):
        with self.assertRaises(BadDeed) as caught:
            perform(Desk(pairs(), "ab"), [("answer",), ("answer",), ("try", [("undo",), ("answer",), None]), None])
        self.assertEqual(caught.exception.index, 2)

    def test_deeds_that_contain_themselves(self):
        deeds = [("answer",)]
        deeds.append(("try", deeds))
        with self.assertRaises(BadDeed) as caught:
            perform(Desk(pairs(), "ab"), deeds)
        self.assertEqual(caught.exception.index, 1)

    def test_splices_are_deeds_whatever_their_parts_are(self):
        for parts in ((0, 0, "a"), (None, None, None), ("a", 0, 1), (1, 0, "c"), ((), [], {})):
            desk = Desk(pairs(), "ab")
            with self.assertRaises(BadSplice) as caught:
                perform(desk, [("answer",), ("splice",) + parts])
            error = caught.exception
            self.assertTrue(error.place is parts[0] and error.removed is parts[1] and error.letters is parts[2])
            self.assertEqual((len(desk.book), desk.text), (5, "ab"))


class ErrorsTest(unittest.TestCase):
    def test_an_error_in_the_middle_of_deeds(self):
        desk = Desk(pairs(), "ab")
        with self.assertRaises(NothingToUndo):
            perform(desk, [("splice", 1, 0, "a"), ("undo",), ("undo",), ("splice", 1, 0, "b")])
        self.assertEqual((desk.text, desk.splices), ("ab", 0))
        with self.assertRaises(BadSplice) as caught:
            perform(desk, [("splice", 1, 0, "a"), ("answer",), ("splice", 9, 0, "b"), ("splice", 1, 0, "b")])
        self.assertEqual(caught.exception.place, 9)
        self.assertEqual((desk.text, desk.splices), ("aab", 1))
        self.assertGreater(len(desk.book.worked), 0)

    def test_an_error_within_a_trial(self):
        desk = Desk(pairs(), "ab")
        deeds = [("splice", 1, 0, "a"),
                 ("try", [("splice", 1, 0, "a"), ("try", [("undo",), ("undo",), ("splice", 1, 0, "q")])]),
                 ("splice", 1, 0, "b")]
        with self.assertRaises(BadSplice):
            perform(desk, deeds)
        self.assertEqual((desk.text, desk.splices), ("aab", 1))
        desk.undo()
        self.assertEqual((desk.text, desk.splices), ("ab", 0))

    def test_an_error_within(self):
        desk = Desk(pairs(), "ab")
        desk.splice(1, 0, "a")
        kept = state_of(desk)
        with self.assertRaises(NothingToUndo):
            within(Trial(desk), [("undo",), ("undo",)])
        self.assertEqual(state_of(desk), kept)


class WithinTest(unittest.TestCase):
    def test_a_trial_that_was_made_long_before(self):
        desk = Desk(pairs(), "ab")
        trial = Trial(desk)
        perform(desk, [("splice", 1, 0, "a"), ("splice", 1, 0, "b")])
        for _ in range(3):
            kept = state_of(desk)
            self.assertEqual(within(trial, [("undo",), ("undo",), ("splice", 3, 0, "")]), (None, None, 0))
            self.assertEqual(state_of(desk), kept)
            with trial:
                desk.splice(1, 0, "bb")
            self.assertEqual(state_of(desk), kept)
            desk.splice(1, 0, "a")
        self.assertEqual((desk.text, desk.splices), ("aaabaab", 5))

    def test_deeds_are_looked_at_before_the_trial_is_entered(self):
        class Watched:
            entered = False

            def __enter__(self):
                self.entered = True
                return Desk(pairs(), "ab")

            def __exit__(self, *told):
                return False

        watched = Watched()
        with self.assertRaises(BadDeed):
            within(watched, [("answer",), ("answer", 1)])
        self.assertFalse(watched.entered)
        # The deeds are done on what the trial gives.
        self.assertEqual(within(watched, [("answer",)]), ("yes",))
        self.assertTrue(watched.entered)


if __name__ == "__main__":
    unittest.main()
