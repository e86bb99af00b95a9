"""Point 75: nets of plain machines beside what is told of their one run."""

import unittest

from pilerecall.books import Book, answer
from pilerecall.loops import loop
from pilerecall.nets import Net
from pilerecall.prices import least_yes
from pilerecall.rings import find_ring, is_ring
from pilerecall.runcounts import longest_run, run_counts
from pilerecall.running import plain_run
from tests.helpers import cases, long_cases, twice


class PlainMachinesTest(unittest.TestCase):
    def test_one_run(self):
        found = {"yes": 0, "no": 0, "endless": 0, "growing": 0}
        drawn = list(cases(440, 250, most_states=3)) + list(long_cases(441, 60)) + [(twice(), "a" * 70)]
        for machine, text in drawn:
            net, book = Net(machine, text), Book(machine, text)
            told = book.answer()
            steps = book.entry((0, 0, ""))[1]
            found[told] += 1
            self.assertEqual(answer(machine, text), told)
            word, walked, _, _ = plain_run(machine, text, 1000)
            if told != "endless" and steps <= 1000:
                self.assertEqual((word, walked, longest_run(net)), ("stops", steps, walked))
            else:
                self.assertEqual(word, "goes on")
            self.assertEqual(net.answer() == "yes", told == "yes")
            self.assertEqual(find_ring(net) is None, told != "endless")
            self.assertEqual(find_ring(net) is None, loop(book) is None)
            self.assertEqual(run_counts(net), {"yes": (1, 0), "no": (0, 1), "endless": None}[told])
            self.assertEqual(longest_run(net), steps)
            self.assertEqual(least_yes(net), steps if told == "yes" else None)
            self.assertEqual({here for _, here in net.edges}, set(book))
            if told == "endless":
                # The surfaces of the loop at which its lasting standings are.
                ring = [loop(book)[2]]
                while len(ring) == 1 or ring[-1] != ring[0]:
                    ring.append(link_that_lasts(book, ring[-1]))
                self.assertTrue(is_ring(net, ring[:-1]))
                found["growing"] += loop(book)[4] != ()
        self.assertTrue(min(found.values()) > 10, found)


def link_that_lasts(book, here):
    """The surface of the next lasting standing behind one with this surface."""
    state, place, top = here
    signs = "<" + book.text + ">"
    after, move, deed, symbol, _ = book.machine.acts(state, signs[place], top)[0]
    to = (after, place + move, symbol if deed in ("push", "swap") else top)
    if deed == "push" and book.entry(to)[0][0] == "falls":
        return book.entry(to)[0][1:] + (top,)
    return to


if __name__ == "__main__":
    unittest.main()
