"""Machines with one stack and a head that moves in both directions."""

from pilerecall.checks import MOST_RULES, MOST_STATES
from pilerecall.checks import is_alphabet, is_between, is_rule, is_sequence, is_state
from pilerecall.errors import BadMachine
from pilerecall.joining import joined_rules, other_states, shifted_states


def check_arguments(letters, states, rules, yes):
    """Raises BadMachine for the first argument of a machine that is not right."""
    if not is_alphabet(letters):
        raise BadMachine("letters")
    if not is_between(states, 1, MOST_STATES):
        raise BadMachine("states")
    if not is_sequence(rules) or len(rules) > MOST_RULES:
        raise BadMachine("rules")
    for index in range(len(rules)):
        if not is_rule(letters, states, rules[index]):
            raise BadMachine(index)
    if not is_sequence(yes) or not all([is_state(states, state) for state in yes]):
        raise BadMachine("yes")


def symbols_of(rules):
    """All symbols that occur in rules, in ascending order."""
    found = {rule[2]: True for rule in rules}
    for rule in rules:
        found[rule[6]] = True
    return tuple(sorted([symbol for symbol in found if symbol != ""]))


def acts_by_key(rules):
    """The acts of each key of ascending rules, in ascending order."""
    found = {}
    for rule in rules:
        found.setdefault(rule[:3], []).append(rule[3:])
    return {key: tuple(found[key]) for key in found}


def first_guess(acts):
    """The first key with more than one act, or None. The keys stand in ascending order."""
    for key in acts:
        if len(acts[key]) > 1:
            return key
    return None


class Machine:
    """A machine, plain or guessing."""

    def __init__(self, letters, states, rules, yes=()):
        check_arguments(letters, states, rules, yes)
        self.letters = letters
        self.states = states
        self.rules = tuple(sorted({tuple(rule) for rule in rules}))
        self.yes = tuple(sorted(set(yes)))
        self.symbols = symbols_of(self.rules)
        self._acts = acts_by_key(self.rules)
        self.guess = first_guess(self._acts)

    def acts(self, state, sign, top):
        """The acts of all rules with this key, in ascending order."""
        return self._acts.get((state, sign, top), ())

    def __eq__(self, other):
        return (
            isinstance(other, Machine)
            and self.letters == other.letters
            and self.states == other.states
            and self.rules == other.rules
            and self.yes == other.yes
        )

    def __invert__(self):
        yes = other_states(self.states, self.yes)
        return Machine(self.letters, self.states, self.rules, yes)

    def __and__(self, other):
        rules = joined_rules(self, other, self.yes)
        begin = self.states + 2
        return Machine(self.letters, begin + other.states, rules, shifted_states(other.yes, begin))

    def __or__(self, other):
        rules = joined_rules(self, other, other_states(self.states, self.yes))
        begin = self.states + 2
        yes = list(self.yes) + shifted_states(other.yes, begin)
        return Machine(self.letters, begin + other.states, rules, yes)
