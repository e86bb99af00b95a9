"""Machines made from programs."""

from pilerecall.checks import MOST_RULES, is_alphabet, is_move
from pilerecall.errors import BadMachine
from pilerecall.flows import flow
from pilerecall.machines import Machine
from pilerecall.nodes import is_held, named_letter
from pilerecall.surfaces import signs_of


def data_symbols(nodes, letters):
    """The marks that nodes push, as the keys of a dict."""
    words = [node[1] for node in nodes if node[0] == "push"]
    data = {word: True for word in words if word != "here"}
    if "here" in words:
        for letter in letters:
            data[letter] = True
    return data


def keeping(after, move=0, said=""):
    """The act that leaves the stack as it is."""
    return (after, move, "keep", "", said)


class Compiler:
    """The nodes of a program, with the signs and the tops that its machine may meet."""

    def __init__(self, program, letters):
        self.nodes = flow(program)
        self.signs = signs_of(letters)
        self.data = data_symbols(self.nodes, letters)
        self.callers = [number for number in range(len(self.nodes)) if self.nodes[number][0] == "call"]
        self.tops = [""] + list(self.data) + [str(number) for number in self.callers]

    def key_count(self):
        """The number of keys for which the nodes have rules."""
        return len(self.nodes) * len(self.signs) * len(self.tops)

    def node_acts(self, number, sign, top):
        """The acts of a node."""
        node = self.nodes[number]
        word = node[0]
        if word == "call":
            return [(node[1], 0, "push", str(number), "")]
        if word == "guess":
            afters = node[1:2] if node[1] == node[2] else node[1:]
            return [keeping(after) for after in afters]
        if word == "give":
            return [keeping(len(self.nodes) + (0 if node[1] == "yes" else 1))]
        if word == "halt":
            return [keeping(len(self.nodes) + (2 if node[1] == "yes" else 3))]
        if word == "test":
            own = top if top in self.data else ""
            return [keeping(node[2] if is_held(node[1], sign, own) else node[3])]
        return [self.plain_act(node, sign, top)]

    def plain_act(self, node, sign, top):
        """The act of a node that moves, pushes, pops or says."""
        word = node[0]
        after = node[-1]
        if word == "move":
            return keeping(after, node[1] if is_move(sign, node[1]) else 0)
        if word == "pop":
            return (after, 0, "pop" if top in self.data else "keep", "", "")
        letter = named_letter(node[1], sign)
        if word == "say":
            return keeping(after, 0, letter)
        return (after, 0, "push", letter, "") if letter else keeping(after)

    def node_rules(self):
        """The rules of all nodes."""
        size = len(self.nodes)
        keys = [(number, sign, top) for number in range(size) for sign in self.signs for top in self.tops]
        return [key + act for key in keys for act in self.node_acts(key[0], key[1], key[2])]

    def giving_rules(self, state, part):
        """The rules that clear the own stack and go back to the call; part tells where it goes on."""
        rules = [(state, sign, mark, state, 0, "pop", "", "") for sign in self.signs for mark in self.data]
        for number in self.callers:
            after = self.nodes[number][part]
            rules.extend([(state, sign, str(number), after, 0, "pop", "", "") for sign in self.signs])
        return rules


def compiled(program, letters):
    """The machine of a program for the texts over an alphabet."""
    if not is_alphabet(letters):
        raise BadMachine("letters")
    compiler = Compiler(program, letters)
    # There could be some millions of rules, which are better not made. The machine itself
    # refuses what is beyond the bound by less: no rule is made twice.
    if compiler.key_count() > MOST_RULES:
        raise BadMachine("rules")
    states = len(compiler.nodes)
    rules = compiler.node_rules() + compiler.giving_rules(states, 2) + compiler.giving_rules(states + 1, 3)
    return Machine(letters, states + 4, rules, [states, states + 2])
