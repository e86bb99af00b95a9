"""Grammars: machines that guess how a text is derived, and how many replacements that takes."""

from pilerecall.checks import MOST_RULES, is_alphabet, is_row, is_sequence, is_text
from pilerecall.deriving import Derivations
from pilerecall.errors import BadGrammar, BadMachine, BadText
from pilerecall.machines import Machine
from pilerecall.surfaces import signs_of

MOST_PAIRS = 40
MOST_BODY = 6
MOST_DERIVED = 40
# The state that compares with the text, and the one behind its end.
COMPARE = 1
DONE = 2


def is_capital(value):
    """Whether a value is one capital letter."""
    return isinstance(value, str) and len(value) == 1 and "A" <= value <= "Z"


def is_body(letters, value):
    """Whether a value is the body of a pair."""
    if not isinstance(value, str) or len(value) > MOST_BODY:
        return False
    return all([is_capital(mark) or mark in letters for mark in value])


def check_grammar(letters, grammar):
    """Raises an error if the alphabet is not right, then for the first pair of the grammar that is not."""
    if not is_alphabet(letters):
        raise BadMachine("letters")
    if not is_sequence(grammar) or len(grammar) == 0:
        raise BadGrammar(0)
    for index in range(len(grammar)):
        pair = grammar[index]
        if index == MOST_PAIRS or not is_row(pair, 2) or not is_capital(pair[0]) or not is_body(letters, pair[1]):
            raise BadGrammar(index)


def derivation_size(letters, grammar, text):
    """The least number of replacements that derive a text from the start of a grammar, or None."""
    check_grammar(letters, grammar)
    if not is_text(letters, text) or len(text) > MOST_DERIVED:
        raise BadText(text)
    return Derivations(grammar, text).size_of(grammar[0][0])


def tops_of(letters, grammar):
    """The empty top, the letters, and the capitals that are names or occur in bodies."""
    capitals = {mark: True for name, body in grammar for mark in name + body if is_capital(mark)}
    return [""] + list(letters) + list(capitals)


def reading_rules(letters, start):
    """The rules that begin, that compare the text with the stack, and that end."""
    rules = [(0, "<", "", COMPARE, 1, "push", start, ""), (COMPARE, ">", "", DONE, 0, "keep", "", "")]
    return rules + [(COMPARE, letter, letter, COMPARE, 1, "pop", "", "") for letter in letters]


def replacing_rules(signs, name, after):
    """The rules that take a name from the stack."""
    return [(COMPARE, sign, name, after, 0, "pop", "", "") for sign in signs]


def pushing_rules(signs, tops, begin, body):
    """The rules that push a body, its last character first."""
    rules = []
    for index in range(len(body)):
        state = begin + index
        after = COMPARE if index == len(body) - 1 else state + 1
        act = (after, 0, "push", body[len(body) - 1 - index], "")
        rules.extend([(state, sign, top) + act for sign in signs for top in tops])
    return rules


def grammar_machine(letters, grammar):
    """The machine that says yes to the texts that a grammar derives."""
    check_grammar(letters, grammar)
    signs = signs_of(letters)
    tops = tops_of(letters, grammar)
    size = sum([len(body) for _, body in grammar])
    # There could be some hundred thousand rules, which are better not made.
    if size * len(signs) * len(tops) > MOST_RULES:
        raise BadMachine("rules")
    rules = reading_rules(letters, grammar[0][0])
    begin = DONE + 1
    for name, body in grammar:
        rules.extend(list(replacing_rules(signs, name, begin if body else COMPARE)))
        rules.extend(list(pushing_rules(signs, tops, begin, body)))
        begin += len(body)
    # Pairs that are equal and have no body give equal rules, which count once.
    return Machine(letters, begin, sorted(set(rules)), [DONE])
