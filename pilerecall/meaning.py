"""What a program means: its run on a text, move by move."""

from pilerecall.checks import MOST_LETTERS, are_letters
from pilerecall.errors import BadText
from pilerecall.flows import flow
from pilerecall.nodes import is_held, named_letter
from pilerecall.surfaces import signs_of


class Doing:
    """A program that is being done, node after node.

    marks is the own stack of the present call. For each call but the first one, under_way has
    the node that made it and the own stack from which it was made.
    """

    def __init__(self, program, text, choices):
        self.nodes = flow(program)
        self.signs = signs_of(text)
        self.choices = choices
        self.chosen = 0
        self.node = self.nodes[0]
        self.place = 0
        self.marks = []
        self.under_way = []
        self.said = []
        self.moves = 0
        self.verdict = None

    def do_node(self):
        """Does the present node, with all moves that it takes."""
        node = self.node
        word = node[0]
        self.moves += 1
        if word == "halt":
            self.verdict = node[1]
        elif word == "give":
            self.give(node[1])
        elif word == "call":
            self.under_way.append((node, self.marks))
            self.marks = []
            self.node = self.nodes[node[1]]
        else:
            self.node = self.nodes[self.followed(node)]

    def give(self, word):
        """Gives an answer: to the call that is under way, or as that of the run."""
        self.moves += len(self.marks)
        if not self.under_way:
            self.verdict = word
            return
        self.moves += 1
        call, self.marks = self.under_way.pop()
        self.node = self.nodes[call[2] if word == "yes" else call[3]]

    def followed(self, node):
        """Does a node within one call; returns the number of the node to go on with."""
        word = node[0]
        sign = self.signs[self.place]
        if word == "test":
            top = self.marks[-1] if self.marks else ""
            return node[2] if is_held(node[1], sign, top) else node[3]
        if word == "guess":
            return self.picked(node)
        if word == "move":
            self.go(node[1])
        elif word == "push" and named_letter(node[1], sign) != "":
            self.marks.append(named_letter(node[1], sign))
        elif word == "say":
            self.said.append(named_letter(node[1], sign))
        elif word == "pop" and self.marks:
            self.marks.pop()
        return node[-1]

    def picked(self, node):
        """The first node of the block that the next choice tells."""
        second = self.chosen < len(self.choices) and self.choices[self.chosen] == 1
        self.chosen += 1
        return node[2] if second else node[1]

    def go(self, by):
        """Moves the head, which stays if there is no such place."""
        if 0 <= self.place + by < len(self.signs):
            self.place += by


def meaning(program, text, limit, *, choices=()):
    """The run of a program on a text as (answer, place, said, moves), or None beyond limit moves."""
    if not are_letters(text, MOST_LETTERS):
        raise BadText(text)
    doing = Doing(program, text, choices)
    while doing.verdict is None and doing.moves <= limit:
        doing.do_node()
    if doing.moves > limit:
        return None
    return (doing.verdict, doing.place, "".join(doing.said), doing.moves)
