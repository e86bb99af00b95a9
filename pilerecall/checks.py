"""The judges of values: what is a letter, a text, a rule, a surface, a standing.

Each judge takes any value and never raises; the functions that begin with check raise.
"""

from pilerecall.errors import BadStanding, BadSurface, BadText, Guesses

MOST_STATES = 2000
MOST_RULES = 20000
MOST_LETTERS = 400
MOST_STACK = 2000
DEEDS = ("keep", "pop", "push", "swap")


def is_integer(value):
    """Whether a value is an integer; a bool is none."""
    return isinstance(value, int) and not isinstance(value, bool)


def is_between(value, least, most):
    """Whether a value is an integer from least to most."""
    return is_integer(value) and least <= value <= most


def is_count(value):
    """Whether a value is an integer that is not below 0."""
    return is_integer(value) and value >= 0


def is_sequence(value):
    """Whether a value is a list or a tuple."""
    return isinstance(value, (list, tuple))


def is_row(value, length):
    """Whether a value is a list or a tuple of so many parts."""
    return is_sequence(value) and len(value) == length


def is_worded(value):
    """Whether a value is a list or a tuple whose first part is a string."""
    return is_sequence(value) and len(value) > 0 and isinstance(value[0], str)


def are_letters(value, most):
    """Whether a value is a string of at most so many letters from a to z."""
    if not isinstance(value, str) or len(value) > most:
        return False
    return all(["a" <= letter <= "z" for letter in value])


def is_letter(value):
    """Whether a value is one letter from a to z."""
    return are_letters(value, 1) and value != ""


def is_alphabet(value):
    """Whether a value is a string of 1 to 26 different letters in ascending order."""
    if not are_letters(value, 26) or value == "":
        return False
    return all([value[at] < value[at + 1] for at in range(len(value) - 1)])


def is_text(letters, value):
    """Whether a value is a text over the alphabet."""
    if not isinstance(value, str) or len(value) > MOST_LETTERS:
        return False
    return all([letter in letters for letter in value])


def is_symbol_mark(mark):
    """Whether a character may stand in a symbol. Characters beyond ASCII may not."""
    return "a" <= mark <= "z" or "A" <= mark <= "Z" or "0" <= mark <= "9"


def is_symbol(value):
    """Whether a value is a symbol."""
    if not isinstance(value, str) or not 1 <= len(value) <= 8:
        return False
    return all([is_symbol_mark(mark) for mark in value])


def is_sign(letters, value):
    """Whether a value is an end sign or a letter of the alphabet."""
    # The length comes first: "ab" in "abc" holds, but "ab" is no letter.
    return isinstance(value, str) and len(value) == 1 and (value in "<>" or value in letters)


def is_top(value):
    """Whether a value may be the top of a key."""
    return is_symbol(value) or isinstance(value, str) and value == ""


def is_move(sign, value):
    """Whether the head can make this move at this sign."""
    if not is_between(value, -1, 1):
        return False
    return not (sign == "<" and value == -1 or sign == ">" and value == 1)


def is_deed(top, deed, symbol):
    """Whether a deed with its symbol is right where the stack has this top."""
    if not isinstance(deed, str) or deed not in DEEDS:
        return False
    if top == "" and deed not in ("keep", "push"):
        return False
    if deed in ("push", "swap"):
        return is_symbol(symbol)
    return isinstance(symbol, str) and symbol == ""


def is_state(states, value):
    """Whether a value is a state of a machine with so many states."""
    return is_between(value, 0, states - 1)


def is_rule(letters, states, value):
    """Whether a value is a rule of a machine with this alphabet and so many states."""
    if not is_row(value, 8):
        return False
    state, sign, top, after, move, deed, symbol, said = value
    if not (is_state(states, state) and is_sign(letters, sign) and is_top(top)):
        return False
    if not (is_state(states, after) and is_move(sign, move)):
        return False
    return is_deed(top, deed, symbol) and are_letters(said, 3)


def is_surface(machine, text, value):
    """Whether a value is a surface of the machine and the text."""
    if not is_row(value, 3):
        return False
    state, place, top = value
    if not (is_state(machine.states, state) and is_between(place, 0, len(text) + 1)):
        return False
    return isinstance(top, str) and (top == "" or top in machine.symbols)


def is_stack(machine, value):
    """Whether a value is a stack that may be passed."""
    if not is_sequence(value) or len(value) > MOST_STACK:
        return False
    known = {symbol: True for symbol in machine.symbols}
    return all([isinstance(symbol, str) and symbol in known for symbol in value])


def is_standing(machine, text, value):
    """Whether a value is a standing of the machine and the text that may be passed."""
    if not is_row(value, 3):
        return False
    state, place, stack = value
    if not (is_state(machine.states, state) and is_between(place, 0, len(text) + 1)):
        return False
    return is_stack(machine, stack)


def check_text(machine, text):
    """Raises BadText if a value is not a text over the machine's alphabet."""
    if not is_text(machine.letters, text):
        raise BadText(text)


def check_plain(machine, text):
    """Raises BadText as above, and then Guesses if the machine is not plain."""
    check_text(machine, text)
    if machine.guess is not None:
        raise Guesses(machine.guess)


def check_surface(machine, text, surface):
    """Raises BadSurface if a value is not a surface of the machine and the text."""
    if not is_surface(machine, text, surface):
        raise BadSurface(surface)


def check_standing(machine, text, standing):
    """Raises BadStanding if a value is not a standing of the machine and the text."""
    if not is_standing(machine, text, standing):
        raise BadStanding(standing)
