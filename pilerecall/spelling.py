"""Machines that read each letter as a word."""

from pilerecall.checks import MOST_RULES, MOST_STATES, is_letter, is_row, is_sequence, is_text
from pilerecall.errors import BadCode, BadMachine
from pilerecall.machines import Machine

MOST_WORD = 4


def is_word(letters, value):
    """Whether a value is a word over the alphabet that a letter may stand for."""
    return is_text(letters, value) and 1 <= len(value) <= MOST_WORD


def check_code(letters, code):
    """Raises BadCode for the first item of a code that is not right; the words are over the alphabet."""
    if not is_sequence(code) or len(code) == 0:
        raise BadCode(0)
    seen = {}
    for index in range(len(code)):
        item = code[index]
        if not is_row(item, 2) or not is_letter(item[0]) or not is_word(letters, item[1]) or item[0] in seen:
            raise BadCode(index)
        seen[item[0]] = True


class Speller:
    """A code, and the numbers of the states of the machine that reads by it.

    A state has a number for each letter of a word at which it may stand, counted from the
    beginning; behind these it has one more, the widest, for the last letter of any word.
    """

    def __init__(self, code):
        self.words = {letter: word for letter, word in code}
        self.widest = max([len(word) for letter, word in code])

    def numbered(self, state, part):
        """The number of a state that stands at this part of a word."""
        return state * (self.widest + 1) + part

    def parts_of(self, word, index):
        """The parts at which a state stands at the letter of a word with this index."""
        return [index, self.widest] if index == len(word) - 1 else [index]

    def after_move(self, word, index, move):
        """The move of the new head, and the part at which the new state stands."""
        inside = index + move
        if inside == -1:
            return (-1, self.widest)
        return (1, 0) if inside == len(word) else (0, inside)

    def end_rules(self, rule):
        """The rules for a rule whose sign is at an end of the text."""
        state, sign, top, after, move, deed, symbol, said = rule
        behind = self.numbered(after, self.widest if move == -1 else 0)
        act = (behind, move, deed, symbol, said)
        return [(self.numbered(state, part), sign, top) + act for part in (0, self.widest)]

    def letter_rules(self, rule):
        """The rules for a rule whose sign is a letter."""
        state, sign, top, after, move, deed, symbol, said = rule
        rules = []
        for letter in self.words:
            word = self.words[letter]
            for index in [at for at in range(len(word)) if word[at] == sign]:
                by, inside = self.after_move(word, index, move)
                act = (self.numbered(after, inside), by, deed, symbol, said)
                parts = self.parts_of(word, index)
                rules.extend([(self.numbered(state, part), letter, top) + act for part in parts])
        return rules

    def rules_for(self, rule):
        """The rules for a rule of the machine."""
        return self.end_rules(rule) if rule[1] in ("<", ">") else self.letter_rules(rule)

    def rule_count(self, sign):
        """How many rules there are for a rule with this sign."""
        if sign in ("<", ">"):
            return 2
        words = [self.words[letter] for letter in self.words]
        inside = sum([word.count(sign) for word in words])
        return inside + len([word for word in words if word[-1] == sign])


def spelled(machine, code):
    """The machine that does on each text what the machine does on the text spelled by the code."""
    check_code(machine.letters, code)
    speller = Speller(code)
    states = machine.states * (speller.widest + 1)
    if states > MOST_STATES:
        raise BadMachine("states")
    # The rules are counted before they are made, for there could be some millions. No two are equal.
    counts = {sign: speller.rule_count(sign) for sign in "<>" + machine.letters}
    if sum([counts[rule[1]] for rule in machine.rules]) > MOST_RULES:
        raise BadMachine("rules")
    rules = [made for rule in machine.rules for made in speller.rules_for(rule)]
    yes = [speller.numbered(state, part) for state in machine.yes for part in range(speller.widest + 1)]
    return Machine("".join(sorted(speller.words)), states, rules, yes)
