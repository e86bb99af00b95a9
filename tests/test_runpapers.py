"""Points 69 and 70: run papers and their judge."""

import random
import unittest

from pilerecall.errors import BadPaper, BadText
from pilerecall.machines import Machine
from pilerecall.nets import Net
from pilerecall.prices import least_yes
from pilerecall.runpapers import paper_edge, paper_fault, paper_run, paper_steps, run_paper
from tests.helpers import after_rule, guessing, pairs, random_machine, random_text, rules_at, surface, twice
from tests.naivenets import landing, net_cases, next_surface, rules_on

S = (0, 0, "")


def plain_reading(machine, text, lines):
    """Reads right lines by the words of point 69, with ways and leads written out; None at the first wrong line."""
    told = []
    for line in lines:
        word = line[0]
        if word == "begin":
            told.append((S, S, [], []))
            continue
        entry, here, way, lead = told[line[1]]
        rule = next(rule for rule in rules_on(machine, text, here) if rule[3:] == tuple(line[2]))
        if word == "step":
            assert rule[5] in ("keep", "swap")
            told.append((entry, next_surface(here, rule), way + [rule], lead))
        elif word == "into":
            assert rule[5] == "push"
            pushed = next_surface(here, rule)
            told.append((pushed, pushed, [], lead + way + [rule]))
        else:
            begin, inner, more, _ = told[line[3]]
            assert rule[5] == "push" and begin == next_surface(here, rule)
            last = next(rule for rule in rules_on(machine, text, inner) if rule[3:] == tuple(line[4]))
            assert last[5] == "pop"
            told.append((entry, landing(inner, last) + (here[2],), way + [rule] + more + [last], lead))
    return told


def right_lines(machine, text, told):
    """All lines that are right behind lines that speak of these edges, each with its edge."""
    lines = [(("begin",), (S, S))]
    for number, (entry, here) in enumerate(told):
        for rule in rules_on(machine, text, here):
            if rule[5] in ("keep", "swap"):
                lines.append((("step", number, rule[3:]), (entry, next_surface(here, rule))))
            if rule[5] == "push":
                pushed = next_surface(here, rule)
                lines.append((("into", number, rule[3:]), (pushed, pushed)))
                for other, (begin, inner) in enumerate(told):
                    if begin == pushed:
                        for last in rules_on(machine, text, inner):
                            if last[5] == "pop":
                                behind = landing(inner, last) + (here[2],)
                                lines.append((("over", number, rule[3:], other, last[3:]), (entry, behind)))
    return lines


def draw_paper(rng, machine, text, most=14):
    """A drawn paper without fault, and the edges of its lines."""
    lines, told = [("begin",)], [(S, S)]
    for _ in range(rng.randint(0, most)):
        ways = right_lines(machine, text, told)
        overs = [way for way in ways if way[0][0] == "over"]
        line, edge = rng.choice(overs if overs and rng.random() < 0.5 else ways)
        lines.append(line)
        told.append(edge)
    return lines, told


def run_of(text, rules):
    """The standings that rules lead to, from START on."""
    standings = [(0, 0, ())]
    for rule in rules:
        assert rule[:3] == key_at(text, standings[-1])
        standings.append(after_rule(standings[-1], rule))
    return tuple(standings)


def key_at(text, standing):
    """The key of a standing."""
    signs = "<" + text + ">"
    return (standing[0], signs[standing[1]], standing[2][-1] if standing[2] else "")


def paper_cases(seed, number):
    """Drawn machines, texts and papers."""
    rng = random.Random(seed)
    for many in (1, 2, 3):
        for _ in range(number):
            machine = random_machine(rng, most_states=3, most_symbols=2, many=many, fill=0.9)
            text = random_text(rng, most=3)
            yield rng, machine, text, *draw_paper(rng, machine, text)


def doubling():
    """A machine that pushes x again and again, and pops it whenever it likes."""
    rules = [(0, "<", "", 1, 0, "push", "x", ""), (1, "<", "x", 1, 0, "push", "x", "k"), (1, "<", "x", 1, 0, "pop", "", ""),
             (1, "<", "x", 2, 0, "swap", "y", ""), (2, "<", "y", 2, 0, "keep", "", "l")]
    return Machine("a", 3, rules, [1])


PUSH_FIRST = (1, 0, "push", "x", "")
PUSH = (1, 0, "push", "x", "k")
POP = (1, 0, "pop", "", "")
SWAP = (2, 0, "swap", "y", "")
KEEP = (2, 0, "keep", "", "l")
# The edges: (S, S), (V, V), (V, (2, 0, "y")), (V, V) and once more (2, 0, "y").
V = (1, 0, "x")
LINES = [("begin",), ("into", 0, PUSH_FIRST), ("step", 1, SWAP), ("over", 1, PUSH, 1, POP), ("step", 2, KEEP)]


def with_part(line, index, value):
    """A line with one part replaced."""
    return line[:index] + (value,) + line[index + 1:]


class EachLineTest(unittest.TestCase):
    def fault(self, *lines):
        """The fault of a doubling paper: the first lines of LINES and then others."""
        return paper_fault(doubling(), "a", lines)

    def test_right_lines(self):
        machine = doubling()
        edges = [(S, S), (V, V), (V, (2, 0, "y")), (V, V), (V, (2, 0, "y"))]
        steps = [0, 1, 2, 3, 3]
        for number in range(1, 6):
            lines = LINES[:number]
            self.assertIsNone(paper_fault(machine, "a", lines))
            self.assertEqual(paper_edge(machine, "a", lines), edges[number - 1])
            self.assertEqual(paper_steps(machine, "a", lines), steps[number - 1])
        self.assertEqual(paper_run(machine, "a", LINES[:4], 100), (
            (0, 0, ()), (1, 0, ("x",)), (1, 0, ("x", "x")), (1, 0, ("x",))))
        self.assertEqual(paper_run(machine, "a", LINES, 3), ((0, 0, ()), (1, 0, ("x",)), (2, 0, ("y",)), (2, 0, ("y",))))

    def test_no_line(self):
        for lines in ([], ()):
            self.assertEqual(paper_fault(doubling(), "a", lines), 0)

    def test_lists_and_tuples(self):
        machine = doubling()
        listed = [[list(part) if isinstance(part, tuple) else part for part in line] for line in LINES]
        kept = [list(line) for line in listed]
        for lines in (listed, tuple(listed), tuple(LINES), [list(line) for line in LINES]):
            self.assertIsNone(paper_fault(machine, "a", lines))
            self.assertEqual(paper_edge(machine, "a", lines), (V, (2, 0, "y")))
            self.assertEqual(paper_steps(machine, "a", lines), 3)
            run = paper_run(machine, "a", lines, 10)
            self.assertEqual(len(run), 4)
            self.assertTrue(type(run) is tuple and all(type(one) is tuple and type(one[2]) is tuple for one in run))
        self.assertEqual(listed, kept)
        edge = paper_edge(machine, "a", listed)
        self.assertTrue(type(edge) is tuple and type(edge[0]) is tuple and type(edge[1]) is tuple)

    def test_lines_of_any_kind(self):
        for value in (None, True, 7, 1.5, "", "begin", b"begin", [], (), [None], (0,), ("Begin",), ("",), (b"begin",),
                      {"begin": 1}, {"begin"}, object(), (["begin"],), ("begin", 0), ("begin", None), ("end",), ("step",),
                      ("into",), ("over",), ("begin", "begin"), [[]], ((),), (None, 0, SWAP), (0, 0, SWAP)):
            self.assertEqual(self.fault(value), 0)
            self.assertEqual(self.fault(*LINES, value, value), 5)

    def test_lines_with_a_part_too_many_or_too_few(self):
        for number, line in enumerate(LINES):
            for wrong in (line + (0,), line + ((),), line[:-1]):
                self.assertEqual(self.fault(*LINES[:number], wrong, *LINES[number + 1:]), number)

    def test_words(self):
        for number, line in enumerate(LINES):
            for word in ("begin", "step", "into", "over", "keep", "push", "", None, 0):
                if word != line[0]:
                    self.assertEqual(self.fault(*LINES[:number], with_part(line, 0, word)), number)

    def test_numbers_of_lines(self):
        for number, line in enumerate(LINES):
            for index in (1, 3):
                if index < len(line):
                    for value in (-1, -2, -number, number, number + 1, 10 ** 30, True, False, None, 0.0, 1.0, "0", (0,), [0]):
                        if number == 0 or value != 0 or not isinstance(value, int):
                            wrong = with_part(line, index, value)
                            self.assertEqual(self.fault(*LINES[:number], wrong, *LINES[number + 1:]), number, (line, value))

    def test_numbers_of_other_earlier_lines(self):
        # The line is an earlier one, but its edge is another one.
        self.assertEqual(self.fault(*LINES[:2], ("step", 0, SWAP)), 2)
        self.assertEqual(self.fault(*LINES[:3], ("into", 0, PUSH)), 3)
        self.assertEqual(self.fault(*LINES[:3], ("over", 0, PUSH, 1, POP)), 3)
        self.assertEqual(self.fault(*LINES[:3], ("over", 1, PUSH, 0, POP)), 3)
        self.assertEqual(self.fault(*LINES[:3], ("over", 1, PUSH, 2, POP)), 3)
        self.assertIsNone(self.fault(*LINES[:3], ("over", 0, PUSH_FIRST, 1, POP)))
        # The surface of line 2 is right, but its entry is not the pushed surface.
        rules = [(0, "<", "", 0, 0, "push", "x", ""), (0, "<", "", 1, 0, "push", "x", ""), (0, "<", "x", 2, 0, "keep", "", ""),
                 (1, "<", "x", 2, 0, "keep", "", ""), (2, "<", "x", 0, 0, "pop", "", "")]
        machine = Machine("a", 3, rules)
        pushes = [(0, 0, "push", "x", ""), (1, 0, "push", "x", "")]
        lines = [("begin",), ("into", 0, pushes[0]), ("into", 0, pushes[1]), ("step", 1, (2, 0, "keep", "", "")),
                 ("step", 2, (2, 0, "keep", "", ""))]
        for push in (0, 1):
            for inner in (3, 4):
                told = paper_fault(machine, "", lines + [("over", 0, pushes[push], inner, (0, 0, "pop", "", ""))])
                self.assertEqual(told, None if inner == 3 + push else 5)

    def test_acts(self):
        strange = (None, True, 7, "", "push", [], (), PUSH[:4], PUSH + ("",), (None,) * 5, ("",) * 5, (0,) * 5, object(),
                   ([], [], [], [], []), {"push"}, PUSH_FIRST[:3] + ("y", ""), (9, 0, "swap", "y", ""), (2, 1, "swap", "y", ""),
                   (2, 0, "Swap", "y", ""), (2, 0, "swap", "x", ""), (2, 0, "swap", "y", "k"), (2, False, "swap", "y", ""),
                   (2.0, 0, "swap", "y", ""), (2, 0.0, "keep", "", "l"), (True, 0, "push", "x", "k"), (True, 0, "pop", "", ""),
                   (1, False, "pop", "", ""), (1, 0, "pop", None, ""), (1, 0, "pop", "", ()), (1, 0, ["pop"], "", ""))
        for number, line in enumerate(LINES[1:], 1):
            for index in (2, 4):
                if index < len(line):
                    others = [act for act in (PUSH_FIRST, PUSH, POP, SWAP, KEEP) if act != line[index]]
                    # Some of the strange ones are equal to acts, but have a bool or a float for an integer.
                    for value in strange + tuple(others):
                        told = self.fault(*LINES[:number], with_part(line, index, value), *LINES[number + 1:])
                        self.assertEqual(told, number, (line, index, value))

    def test_acts_of_another_deed(self):
        # The act is one of the surface, but not for this line.
        for act in (PUSH, POP):
            self.assertEqual(self.fault(*LINES[:2], ("step", 1, act)), 2)
        for act in (SWAP, POP):
            self.assertEqual(self.fault(*LINES[:2], ("into", 1, act)), 2)
            self.assertEqual(self.fault(*LINES[:2], ("over", 1, act, 1, POP)), 2)
        for act in (SWAP, PUSH):
            self.assertEqual(self.fault(*LINES[:2], ("over", 1, PUSH, 1, act)), 2)
        self.assertEqual(self.fault(*LINES[:3], ("into", 2, KEEP)), 3)

    def test_the_first_fault(self):
        for first in range(5):
            lines = LINES[:first] + [None] * (5 - first)
            self.assertEqual(self.fault(*lines), first)
        # A line that leans on a wrong one is not looked at.
        self.assertEqual(self.fault(("begin",), ("into", 0, SWAP), ("step", 1, SWAP)), 1)


class DrawnPapersTest(unittest.TestCase):
    def test_right_papers(self):
        words, lengths = {}, []
        for _, machine, text, lines, edges in paper_cases(500, 250):
            told = plain_reading(machine, text, lines)
            self.assertIsNone(paper_fault(machine, text, lines))
            for number in range(len(lines)):
                words[lines[number][0]] = words.get(lines[number][0], 0) + 1
            entry, here, way, lead = told[-1]
            self.assertEqual(paper_edge(machine, text, lines), (entry, here))
            self.assertEqual((entry, here), edges[-1])
            steps = len(lead) + len(way)
            lengths.append(steps)
            self.assertEqual(paper_steps(machine, text, lines), steps)
            run = run_of(text, lead + way)
            for limit in (steps, steps + 1, 10000):
                self.assertEqual(paper_run(machine, text, lines, limit), run)
            for limit in range(max(0, steps - 2), steps):
                self.assertIsNone(paper_run(machine, text, lines, limit))
            self.assertEqual(surface(run[-1]), here)
            self.assertEqual(surface(run[len(lead)]), entry)
            self.assertEqual(len(run[-1][2]), len(run[len(lead)][2]))
        self.assertEqual(set(words), {"begin", "step", "into", "over"})
        self.assertTrue(min(words.values()) > 100, words)
        self.assertGreater(max(lengths), 9)

    def test_torn_papers(self):
        faults = 0
        for rng, machine, text, lines, edges in paper_cases(510, 250):
            number = rng.randrange(len(lines))
            line = lines[number]
            index = rng.randrange(len(line))
            value = rng.choice([rng.randint(-2, 9), rng.choice(machine.rules)[3:] if machine.rules else (), "over", None])
            torn = lines[:number] + [line[:index] + (value,) + line[index + 1:]] + lines[number + 1:]
            expected, edges = None, []
            for at, one in enumerate(torn):
                right = dict((repr(way), edge) for way, edge in right_lines(machine, text, edges))
                if repr(one) not in right:
                    expected = at
                    break
                edges.append(right[repr(one)])
            self.assertEqual(paper_fault(machine, text, torn), expected)
            if expected is None:
                self.assertEqual(paper_edge(machine, text, torn), edges[-1])
                continue
            faults += 1
            for function in (paper_edge, paper_steps, lambda *given: paper_run(*given, 100)):
                with self.assertRaises(BadPaper) as caught:
                    function(machine, text, torn)
                self.assertEqual(caught.exception.place, expected)
        self.assertGreater(faults, 300)


class LongPapersTest(unittest.TestCase):
    def test_thousands_of_lines_that_step(self):
        lines = [("begin",), ("into", 0, PUSH_FIRST), ("step", 1, SWAP)] + [("step", at, KEEP) for at in range(2, 6001)]
        machine = doubling()
        self.assertIsNone(paper_fault(machine, "", lines))
        self.assertEqual(paper_steps(machine, "", lines), 6001)
        self.assertEqual(len(paper_run(machine, "", lines, 6001)), 6002)
        self.assertIsNone(paper_run(machine, "", lines, 6000))
        self.assertEqual(paper_fault(machine, "", lines + [("step", 6002, KEEP)]), 6002)

    def test_thousands_of_lines_that_push(self):
        lines = [("begin",), ("into", 0, PUSH_FIRST)] + [("into", at, PUSH) for at in range(1, 3000)]
        machine = doubling()
        self.assertEqual(paper_edge(machine, "", lines), (V, V))
        self.assertEqual(paper_steps(machine, "", lines), 3000)
        run = paper_run(machine, "", lines, 10000)
        self.assertEqual([len(one[2]) for one in run], list(range(3001)))

    def test_thousands_of_lines_over_one_another(self):
        # Each line lies over the one before it, so the run climbs up and then down again.
        lines = [("begin",), ("into", 0, PUSH_FIRST)] + [("over", 1, PUSH, at, POP) for at in range(1, 4000)]
        machine = doubling()
        self.assertEqual(paper_steps(machine, "", lines), 1 + 2 * 3999)
        heights = [len(one[2]) for one in paper_run(machine, "", lines, 10000)]
        self.assertEqual(heights, list(range(4001)) + list(range(3999, 0, -1)))
        # Each line goes on behind the one before it.
        lines = lines[:2] + [("over", at, PUSH, 1, POP) for at in range(1, 4000)]
        heights = [len(one[2]) for one in paper_run(machine, "", lines, 7999)]
        self.assertEqual(heights, [0, 1] + [2, 1] * 3999)
        self.assertIsNone(paper_run(machine, "", lines, 7998))

    def test_more_than_2_to_the_60_steps(self):
        # Each line takes the way of the one before it twice.
        machine = doubling()
        lines = [("begin",), ("into", 0, PUSH_FIRST)] + [("over", at, PUSH, at, POP) for at in range(1, 101)]
        self.assertIsNone(paper_fault(machine, "", lines))
        self.assertEqual(paper_edge(machine, "", lines), (V, V))
        self.assertEqual(paper_steps(machine, "", lines), 1 + 2 * (2 ** 100 - 1))
        self.assertIsNone(paper_run(machine, "", lines, 10000))
        for number in range(1, 12):
            steps = 1 + 2 * (2 ** number - 1)
            run = paper_run(machine, "", lines[:number + 2], steps)
            self.assertEqual(len(run), steps + 1)
            for before, after in zip(run, run[1:]):
                self.assertIn(after, [after_rule(before, rule) for rule in rules_at(machine, "", before)])
        more = lines + [("over", 101, PUSH, 101, POP), ("into", 102, PUSH), ("over", 102, PUSH, 103, POP)]
        self.assertEqual(paper_steps(machine, "", more), 1 + 2 * (2 ** 101 - 1) + 2)

    def test_limits(self):
        machine = doubling()
        self.assertEqual(paper_run(machine=machine, text="a", lines=[("begin",)], limit=0), ((0, 0, ()),))
        self.assertIsNone(paper_run(machine, "a", LINES[:2], 0))
        lines = [("begin",), ("into", 0, PUSH_FIRST), ("step", 1, SWAP)] + [("step", at, KEEP) for at in range(2, 10000)]
        self.assertEqual(len(paper_run(machine, "a", lines, 10000)), 10001)
        self.assertIsNone(paper_run(machine, "a", lines + [("step", 10000, KEEP)], 10000))


class RunPaperTest(unittest.TestCase):
    def check_paper(self, net):
        """The run paper of a net; returns the least number of steps."""
        machine, text = net.machine, net.text
        least, lines = least_yes(net), run_paper(net=net)
        if least is None:
            self.assertIsNone(lines)
            return None
        self.assertIs(type(lines), tuple)
        self.assertTrue(all(type(line) is tuple for line in lines))
        self.assertIsNone(paper_fault(machine=machine, text=text, lines=lines))
        self.assertEqual(paper_steps(machine=machine, text=text, lines=lines), least)
        self.assertLessEqual(len(lines), len(net.edges))
        _, here = paper_edge(machine=machine, text=text, lines=lines)
        self.assertEqual((rules_on(machine, text, here), here[0] in machine.yes), ([], True))
        return least

    def test_drawn_nets(self):
        found = {"none": 0, "short": 0, "long": 0}
        for machine, text in net_cases(520, 50):
            least = self.check_paper(Net(machine, text))
            found["none" if least is None else "short" if least < 4 else "long"] += 1
            if least is not None:
                lines = run_paper(Net(machine, text))
                run = paper_run(machine, text, lines, 10000)
                self.assertEqual((run[0], len(run)), ((0, 0, ()), least + 1))
                for before, after in zip(run, run[1:]):
                    self.assertIn(after, [after_rule(before, rule) for rule in rules_at(machine, text, before)])
                self.assertEqual((rules_at(machine, text, run[-1]), run[-1][0] in machine.yes), ([], True))
        self.assertTrue(min(found.values()) > 10, found)

    def test_long_runs(self):
        for n in (1, 5, 70, 400):
            self.assertEqual(self.check_paper(Net(twice(), "a" * n)), 5 * 2 ** n - 4)

    def test_all_of_a_net_may_be_needed(self):
        net = Net(twice(), "a" * 9)
        self.assertEqual(len(run_paper(net)), len(net.edges))

    def test_a_run_that_stops_at_once(self):
        self.assertEqual(run_paper(Net(Machine("a", 1, [], [0]), "a")), (("begin",),))
        self.assertIsNone(run_paper(Net(Machine("a", 1, []), "a")))

    def test_a_stop_high_above(self):
        rules = [(state, "<", top, state + 1, 0, "push", "x", "") for state in range(1999) for top in ("", "x")]
        net = Net(Machine("a", 2000, rules, [1999]), "")
        self.assertEqual(self.check_paper(net), 1999)
        self.assertEqual([line[0] for line in run_paper(net)], ["begin"] + ["into"] * 1999)


class ErrorsTest(unittest.TestCase):
    def functions(self):
        return (paper_fault, paper_edge, paper_steps, lambda *given: paper_run(*given, 10))

    def test_texts_come_first(self):
        for machine in (pairs(), guessing()):
            for text in (None, True, 7, "c", "ab>", "A", "a" * 401, ["a"], ("a", "b"), b"ab", object()):
                for function in self.functions():
                    with self.assertRaises(BadText) as caught:
                        function(machine, text, [])
                    self.assertIs(caught.exception.text, text)

    def test_faults(self):
        for function in self.functions()[1:]:
            for lines, place in (([], 0), ([None], 0), (LINES + [("begin", 0)], 5), (LINES[1:], 0)):
                with self.assertRaises(BadPaper) as caught:
                    function(doubling(), "a", lines)
                self.assertEqual(caught.exception.place, place)

    def test_guessing_machines_are_judged(self):
        machine = guessing()
        self.assertIsNone(paper_fault(machine, "ab", [("begin",), ("step", 0, (1, 1, "keep", "", ""))]))
        self.assertIsNone(paper_fault(machine, "ab", [("begin",), ("into", 0, (0, 0, "push", "Z9", "q"))]))
        # At place 1 of this text there is no a.
        lines = [("begin",), ("step", 0, (1, 1, "keep", "", "")), ("step", 1, (0, -1, "keep", "", ""))]
        self.assertIsNone(paper_fault(machine, "ab", lines))
        self.assertEqual(paper_fault(machine, "b", lines), 2)


if __name__ == "__main__":
    unittest.main()
