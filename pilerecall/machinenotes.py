"""Machines written as text, and read back."""

from pilerecall.checks import MOST_RULES, MOST_STATES, is_alphabet, is_between, is_rule, is_state
from pilerecall.errors import BadLine
from pilerecall.machines import Machine

MOVE_WORDS = {-1: "left", 0: "stay", 1: "right"}
MOVES = {"left": -1, "stay": 0, "right": 1}


def rule_line(rule):
    """The line of a rule, without its newline character."""
    state, sign, top, after, move, deed, symbol, said = rule
    words = [str(state), sign, top or "-", str(after), MOVE_WORDS[move], deed]
    if symbol:
        words.append(symbol)
    if said:
        words.extend(["say", said])
    return " ".join(words)


def write_machine(machine):
    """The text of a machine."""
    lines = [
        f"letters {machine.letters}",
        f"states {machine.states}",
        " ".join(["yes"] + [str(state) for state in machine.yes]),
    ]
    lines.extend([rule_line(rule) for rule in machine.rules])
    return "".join([line + "\n" for line in lines])


def lines_of(text):
    """The lines of a text. The newline character of the last one may be missing."""
    lines = text.split("\n")
    if lines[-1] == "":
        lines.pop()
    return lines


def number_of(word):
    """The number that a word writes, or None. No number of a machine has five digits."""
    if not 1 <= len(word) <= 4 or not all(["0" <= digit <= "9" for digit in word]):
        return None
    if word[0] == "0" and word != "0":
        return None
    return int(word)


def words_after(lines, index, head):
    """The words that follow the word head in a line, or BadLine."""
    words = lines[index].split(" ") if index < len(lines) else []
    if not words or words[0] != head:
        raise BadLine(index + 1)
    return words[1:]


def read_letters(lines):
    """The alphabet in the first line."""
    words = words_after(lines, 0, "letters")
    if len(words) != 1 or not is_alphabet(words[0]):
        raise BadLine(1)
    return words[0]


def read_states(lines):
    """The number of states in the second line."""
    numbers = [number_of(word) for word in words_after(lines, 1, "states")]
    if len(numbers) != 1 or not is_between(numbers[0], 1, MOST_STATES):
        raise BadLine(2)
    return numbers[0]


def read_yes(lines, states):
    """The yes states in the third line."""
    numbers = [number_of(word) for word in words_after(lines, 2, "yes")]
    if not all([is_state(states, number) for number in numbers]):
        raise BadLine(3)
    return numbers


def top_of_word(word):
    """The top that a word writes. The empty word writes none."""
    if word == "-":
        return ""
    return word if word else None


def said_of_words(words):
    """What the last words of a rule's line say, or None if they are not right."""
    if not words:
        return ""
    if len(words) != 2 or words[0] != "say" or words[1] == "":
        return None
    return words[1]


def rule_of_line(line):
    """The eight parts that a line seems to write. They may be no rule."""
    words = line.split(" ")
    if len(words) < 6:
        return None
    state, sign, top, after, move, deed = words[:6]
    rest = words[6:]
    symbol = ""
    if deed in ("push", "swap") and rest:
        symbol = rest.pop(0)
    parts = (number_of(state), sign, top_of_word(top), number_of(after))
    return parts + (MOVES.get(move), deed, symbol, said_of_words(rest))


def read_machine(text):
    """The machine that a text writes. Raises BadLine for the first line that is not right."""
    lines = lines_of(text)
    letters = read_letters(lines)
    states = read_states(lines)
    yes = read_yes(lines, states)
    rules = []
    for index in range(3, len(lines)):
        rule = rule_of_line(lines[index])
        if len(rules) == MOST_RULES or not is_rule(letters, states, rule):
            raise BadLine(index + 1)
        rules.append(rule)
    return Machine(letters, states, rules, yes)
