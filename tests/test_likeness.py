"""Points 62 and 63: machines without states that are not reached, and with like states joined."""

import random
import unittest

from pilerecall.books import Book, answer
from pilerecall.likeness import is_likeness, likeness, merged, trimmed
from pilerecall.machines import Machine
from pilerecall.running import plain_run
from pilerecall.standings import moves
from tests.helpers import cases, guessing, pairs, random_machine, random_text, twice


def plain_trim(machine):
    """The machine of point 62 and the reached states in ascending order."""
    reached = {0}
    for _ in range(machine.states):
        reached |= {rule[3] for rule in machine.rules if rule[0] in reached}
    order = sorted(reached)
    rules = [(order.index(rule[0]),) + rule[1:3] + (order.index(rule[3]),) + rule[4:]
             for rule in machine.rules if rule[0] in reached]
    yes = [order.index(state) for state in machine.yes if state in reached]
    return Machine(machine.letters, len(order), rules, yes), order


def plain_is_likeness(machine, classes):
    """Whether classes are a likeness, two states after two."""
    def told(state):
        return {rule[1:3] + (classes[rule[3]],) + rule[4:] for rule in machine.rules if rule[0] == state}

    if len(classes) != machine.states:
        return False
    return all(
        (one in machine.yes) == (two in machine.yes) and told(one) == told(two)
        for one in range(machine.states) for two in range(one) if classes[one] == classes[two]
    )


def partitions(number):
    """All ways to join so many states, each as classes in the order of their least states."""
    ways = [()]
    for _ in range(number):
        ways = [way + (to,) for way in ways for to in range(max(way, default=-1) + 2)]
    return ways


def doubled(rng, machine, times=2):
    """A machine with several states for each of another, which do the same, and the old state of each."""
    olds = [state for state in range(machine.states) for _ in range(rng.randint(1, times))]
    rest = olds[1:]
    rng.shuffle(rest)
    olds = [0] + rest
    olds += [state for state in range(machine.states) if state not in olds]
    rules = []
    for number, old in enumerate(olds):
        for rule in machine.rules:
            if rule[0] == old:
                to = rng.choice([at for at in range(len(olds)) if olds[at] == rule[3]])
                rules.append((number,) + rule[1:3] + (to,) + rule[4:])
    yes = [number for number, old in enumerate(olds) if old in machine.yes]
    return Machine(machine.letters, len(olds), rules, yes), olds


def reached_after(machine, text, steps):
    """All standings after each number of steps."""
    rows = [{(0, 0, ())}]
    for _ in range(steps):
        rows.append({after for one in rows[-1] for after in moves(machine, text, one)})
    return rows


class TrimmedTest(unittest.TestCase):
    def test_a_small_machine_in_full(self):
        rules = [(0, "a", "", 4, 0, "keep", "", ""), (4, "b", "x", 2, 0, "pop", "", "k"), (2, ">", "", 2, -1, "push", "y", ""),
                 (1, "a", "", 3, 0, "push", "z", ""), (3, "a", "", 0, 0, "keep", "", ""), (1, "b", "", 4, 0, "keep", "", "")]
        told = trimmed(machine=Machine("ab", 6, rules, [1, 2, 4, 5]))
        self.assertEqual(told, Machine("ab", 3, [(0, "a", "", 2, 0, "keep", "", ""), (2, "b", "x", 1, 0, "pop", "", "k"),
                                                 (1, ">", "", 1, -1, "push", "y", "")], [1, 2]))
        self.assertEqual(told.symbols, ("x", "y"))

    def test_drawn_machines(self):
        left_out = {"some": 0, "none": 0}
        for many in (1, 2):
            for machine, _ in cases(320 + many, 150, many=many, most_states=8, fill=0.12):
                told = trimmed(machine)
                self.assertEqual(told, plain_trim(machine)[0])
                self.assertEqual(trimmed(told), told)
                left_out["some" if told.states < machine.states else "none"] += 1
        self.assertTrue(min(left_out.values()) > 20, left_out)

    def test_all_is_reached(self):
        for machine in (pairs(), twice(), guessing(), Machine("a", 1, [], [0])):
            self.assertEqual(trimmed(machine), machine)

    def test_nothing_but_the_start_is_reached(self):
        rules = [(state, "a", "", state - 1, 0, "keep", "", "") for state in range(1, 2000)]
        self.assertEqual(trimmed(Machine("a", 2000, rules, [0, 5])), Machine("a", 1, [], [0]))

    def test_a_long_way_to_the_last_state(self):
        rules = [(state, "a", "", state + 1, 0, "keep", "", "") for state in range(1999)]
        machine = Machine("a", 2000, rules, [1999])
        self.assertEqual(trimmed(machine), machine)

    def test_runs(self):
        for machine, text in cases(326, 150, most_states=8, fill=0.3):
            told, order = trimmed(machine), plain_trim(machine)[1]
            for limit in (0, 1, 5, 50):
                word, steps, standing, said = plain_run(told, text, limit)
                new = (order[standing[0]],) + standing[1:]
                self.assertEqual((word, steps, new, said), plain_run(machine, text, limit))
            self.assertEqual(answer(told, text), answer(machine, text))
        for machine, text in cases(327, 60, many=2, most_states=6, fill=0.4):
            order = plain_trim(machine)[1]
            told = [{(order[one[0]],) + one[1:] for one in row} for row in reached_after(trimmed(machine), text, 6)]
            self.assertEqual(told, reached_after(machine, text, 6))


class IsLikenessTest(unittest.TestCase):
    def test_drawn_sequences(self):
        rng = random.Random(331)
        found = {True: 0, False: 0}
        for many in (1, 2):
            for machine, _ in cases(332 + many, 200, many=many, most_states=2, fill=0.4):
                machine, olds = doubled(rng, machine, 3)
                drawn = [rng.randint(-2, 2) for _ in olds]
                torn = [old if rng.random() < 0.7 else 10 + at for at, old in enumerate(olds)]
                for classes in (olds, drawn, torn, list(range(len(olds))), [0] * len(olds), [-old * 10 ** 30 for old in olds]):
                    expected = plain_is_likeness(machine, classes)
                    found[expected] += 1
                    self.assertIs(is_likeness(machine, classes), expected)
                    self.assertIs(is_likeness(machine=machine, classes=tuple(classes)), expected)
        self.assertTrue(min(found.values()) > 100, found)

    def test_any_length(self):
        machine = Machine("a", 3, [])
        for length in (0, 1, 2, 4, 100):
            self.assertIs(is_likeness(machine, [0] * length), False)
        self.assertIs(is_likeness(machine, [0] * 3), True)
        self.assertIs(is_likeness(machine, [7, -7, 7]), True)

    def test_bools_are_no_integers(self):
        machine = Machine("a", 2, [])
        for classes in ([True, True], [0, False], [1.0, 1.0]):
            self.assertIs(is_likeness(machine, classes), False)

    def test_what_keeps_states_apart(self):
        rule = (0, "a", "x", 2, 0, "push", "y", "k")
        for index, value in ((1, "b"), (2, "y"), (3, 3), (4, 1), (5, "swap"), (6, "z"), (7, "")):
            other = (1,) + rule[1:index] + (value,) + rule[index + 1:]
            machine = Machine("ab", 4, [rule, other], [3])
            self.assertIs(is_likeness(machine, [0, 0, 1, 2]), False)
            self.assertIs(is_likeness(machine, [0, 1, 2, 3]), True)
        self.assertIs(is_likeness(Machine("ab", 4, [rule, (1,) + rule[1:]], [3]), [0, 0, 1, 2]), True)
        self.assertIs(is_likeness(Machine("ab", 4, [rule, (1,) + rule[1:]], [3, 1]), [0, 0, 1, 2]), False)
        # One rule less, or one more.
        self.assertIs(is_likeness(Machine("ab", 4, [rule], [3]), [0, 0, 1, 2]), False)

    def test_sets_of_rules_and_not_their_numbers(self):
        # Two rules of state 0 lead to one class, as the one rule of state 1 does.
        rules = [(0, "a", "", 2, 0, "keep", "", ""), (0, "a", "", 3, 0, "keep", "", ""), (1, "a", "", 2, 0, "keep", "", "")]
        machine = Machine("a", 4, rules)
        self.assertIs(is_likeness(machine, [0, 0, 1, 1]), True)
        self.assertIs(is_likeness(machine, [0, 0, 1, 2]), False)
        self.assertEqual(likeness(machine), (0, 0, 1, 1))


class LikenessTest(unittest.TestCase):
    def check_likeness(self, machine):
        """The likeness of a machine beside all ways to join its states; returns it."""
        told = likeness(machine)
        ways = [way for way in partitions(machine.states) if plain_is_likeness(machine, way)]
        fewest = min(max(way) for way in ways)
        best = [way for way in ways if max(way) == fewest]
        self.assertEqual([told], best)
        for way in ways:
            for one in range(machine.states):
                for two in range(one):
                    if way[one] == way[two]:
                        self.assertEqual(told[one], told[two])
        return told

    def test_drawn_machines_beside_all_ways_to_join(self):
        rng = random.Random(341)
        joined = {0: 0, 1: 0, 2: 0, 3: 0}
        for many in (1, 2):
            for machine, _ in cases(342 + many, 120, letters="a", many=many, most_states=3, most_symbols=1, fill=0.5):
                machine, _ = doubled(rng, machine)
                told = self.check_likeness(machine)
                joined[min(3, machine.states - 1 - max(told))] += 1
        self.assertTrue(min(joined.values()) > 5, joined)

    def test_the_order_of_the_integers(self):
        rules = [(0, "a", "", 3, 0, "keep", "", ""), (2, "a", "", 3, 0, "keep", "", "")]
        machine = Machine("a", 6, rules, [1, 4])
        self.assertEqual(likeness(machine=machine), (0, 1, 0, 2, 1, 2))
        self.assertIs(type(likeness(machine)), tuple)
        self.assertTrue(is_likeness(machine, likeness(machine)))

    def test_rings_of_states_that_do_the_same(self):
        for n in (1, 2, 5, 300):
            rules = [(state, "a", "", (state + 1) % n, 1, "keep", "", "b") for state in range(n)]
            self.assertEqual(likeness(Machine("a", n, rules)), (0,) * n)
            self.assertEqual(likeness(Machine("a", n, rules, [n - 1])), tuple(range(n)))
        rules = [(state, "a", "", (state + 1) % 12, 1, "keep", "", "b") for state in range(12)]
        self.assertEqual(likeness(Machine("a", 12, rules, [0, 4, 8])), tuple(state % 4 for state in range(12)))

    def test_2000_states_in_a_row(self):
        # Each state is told apart from the one before it only by the end of the row.
        rules = [(state, sign, "", state + 1, 0, "keep", "", "") for state in range(1999) for sign in "abcdefghi<"]
        self.assertEqual(likeness(Machine("abcdefghi", 2000, rules)), tuple(range(2000)))
        self.assertEqual(likeness(Machine("abcdefghi", 2000, rules + [(1999, "a", "", 1999, 0, "keep", "", "")])),
                         tuple(range(2000)))
        loops = [(1999, sign, "", 1999, 0, "keep", "", "") for sign in "abcdefghi<"]
        self.assertEqual(likeness(Machine("abcdefghi", 2000, rules + loops)), (0,) * 2000)

    def test_larger_machines_beside_parting_round_by_round(self):
        rng = random.Random(345)
        for many in (1, 2, 1, 2):
            for _ in range(15):
                machine = random_machine(rng, "a", 12, 1, many, 0.5)
                machine, _ = doubled(rng, machine, 4)
                classes = [int(state in machine.yes) for state in range(machine.states)]
                for _ in range(machine.states):
                    looks = [(classes[state], frozenset(rule[1:3] + (classes[rule[3]],) + rule[4:] for rule in machine.rules
                                                        if rule[0] == state)) for state in range(machine.states)]
                    classes = [looks.index(look) for look in looks]
                order = sorted(set(classes))
                self.assertEqual(likeness(machine), tuple(order.index(one) for one in classes))


class MergedTest(unittest.TestCase):
    def check_merged(self, machine):
        """The merged machine by the likeness, and what it is if it is merged once more."""
        classes = likeness(machine)
        told = merged(machine)
        rules = {(classes[rule[0]],) + rule[1:3] + (classes[rule[3]],) + rule[4:] for rule in machine.rules}
        yes = {classes[state] for state in machine.yes}
        self.assertEqual(told, Machine(machine.letters, max(classes) + 1, list(rules), list(yes)))
        self.assertEqual(likeness(told), tuple(range(told.states)))
        self.assertEqual(merged(told), told)
        return told, classes

    def test_plain_machines(self):
        rng = random.Random(351)
        fewer = 0
        for machine, _ in cases(352, 150):
            machine, _ = doubled(rng, machine)
            told, classes = self.check_merged(machine)
            fewer += told.states < machine.states
            text = random_text(rng, machine.letters)
            for limit in (0, 1, 5, 50):
                word, steps, standing, said = plain_run(machine, text, limit)
                self.assertEqual(plain_run(told, text, limit), (word, steps, (classes[standing[0]],) + standing[1:], said))
            self.assertEqual(answer(told, text), answer(machine, text))
        self.assertGreater(fewer, 50)

    def test_machines_that_guess(self):
        rng = random.Random(353)
        for machine, text in list(cases(354, 60, many=2, most_states=3)) + [(guessing(), "aba")]:
            machine, _ = doubled(rng, machine)
            told, classes = self.check_merged(machine)
            expected = [{(classes[one[0]],) + one[1:] for one in row} for row in reached_after(machine, text, 5)]
            self.assertEqual(reached_after(told, text, 5), expected)

    def test_several_runs_may_become_one(self):
        rules = [(0, "<", "", 1, 0, "keep", "", ""), (0, "<", "", 2, 0, "keep", "", "")]
        machine = Machine("a", 3, rules, [1, 2])
        self.assertEqual(machine.guess, (0, "<", ""))
        told, _ = self.check_merged(machine)
        self.assertEqual(told, Machine("a", 2, rules[:1], [1]))
        self.assertIsNone(told.guess)

    def test_the_machine_itself_stays(self):
        machine = twice()
        book = Book(merged(machine=machine), "a" * 70)
        self.assertEqual(book.answer(), "yes")
        self.assertEqual(book.entry((0, 0, ""))[1], 5 * 2 ** 70 - 4)
        self.assertEqual(machine, twice())


if __name__ == "__main__":
    unittest.main()
