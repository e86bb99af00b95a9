"""Trees of programs: which values are right, and what a tree consists of.

The judges take any values. A tree that is too deep, or a block with too many statements, is
left at once, so that no judge goes deeper than the bounds allow.
"""

from pilerecall.checks import are_letters, is_letter, is_row, is_sequence, is_worded

RESERVED = (
    "to", "end", "left", "right", "pop", "yes", "no", "push", "here", "say", "call", "if", "then", "else", "while",
    "do", "either", "or", "halt", "not", "and", "at", "top", "none", "same",
)
BARE = ("left", "right", "pop", "yes", "no")
MOST_NAME = 12
MOST_NESTED = 8
MOST_STATEMENTS = 300
MOST_PROCEDURES = 40


def is_name(value):
    """Whether a value is a name of a procedure."""
    return are_letters(value, MOST_NAME) and value != "" and value not in RESERVED


def is_mark(value):
    """Whether a value is one letter, small or capital."""
    return isinstance(value, str) and len(value) == 1 and ("a" <= value <= "z" or "A" <= value <= "Z")


def is_here(value):
    """Whether a value is the word here."""
    return isinstance(value, str) and value == "here"


def is_end_sign(value):
    """Whether a value is the sign at an end of a text."""
    return isinstance(value, str) and value in ("<", ">")


def is_test(value, levels):
    """Whether a value is a test that is at most so many levels deep."""
    if levels == 0 or not is_worded(value):
        return False
    word = value[0]
    if word == "same":
        return len(value) == 1
    if word in ("and", "or"):
        return len(value) == 3 and is_test(value[1], levels - 1) and is_test(value[2], levels - 1)
    if len(value) != 2:
        return False
    if word == "at":
        return is_letter(value[1]) or is_end_sign(value[1])
    if word == "top":
        return is_mark(value[1]) or isinstance(value[1], str) and value[1] == ""
    return word == "not" and is_test(value[1], levels - 1)


def is_condition(value, levels):
    """Whether a value is a condition that is at most so many levels deep."""
    if levels == 0 or not is_worded(value):
        return False
    if value[0] == "call":
        return len(value) == 2 and is_name(value[1])
    if value[0] == "not":
        return len(value) == 2 and is_condition(value[1], levels - 1)
    return is_test(value, levels)


def is_simple(value):
    """Whether a value is a statement without blocks."""
    word = value[0]
    if word in BARE:
        return len(value) == 1
    if len(value) != 2:
        return False
    if word == "push":
        return is_mark(value[1]) or is_here(value[1])
    if word == "say":
        return is_letter(value[1]) or is_here(value[1])
    if word == "call":
        return is_name(value[1])
    return word == "halt" and isinstance(value[1], str) and value[1] in ("yes", "no")


def is_headed(value):
    """Whether a value is a statement with blocks, whatever its blocks are."""
    word = value[0]
    if word == "if":
        return len(value) == 4 and is_condition(value[1], MOST_NESTED)
    if word == "while":
        return len(value) == 3 and is_condition(value[1], MOST_NESTED)
    return word == "either" and len(value) == 3


def blocks_of(statement):
    """The blocks of a statement."""
    if statement[0] in ("if", "while"):
        return statement[2:]
    return statement[1:] if statement[0] == "either" else ()


def statement_size(value, levels, room):
    """How many statements a statement is, with those in its blocks; None if it is not right.

    It is not right, either, with more statements than there is room, or if it is more levels deep.
    """
    if levels == 0 or room == 0 or not is_worded(value):
        return None
    if not is_headed(value):
        return 1 if is_simple(value) else None
    size = 1
    for block in blocks_of(value):
        inner = block_size(block, levels - 1, room - size)
        if inner is None:
            return None
        size += inner
    return size


def block_size(value, levels, room):
    """How many statements a block has at all depths; None if it is not right, as above."""
    if not is_sequence(value):
        return None
    size = 0
    for statement in value:
        inner = statement_size(statement, levels, room - size)
        if inner is None:
            return None
        size += inner
    return size


def procedure_size(value, room):
    """How many statements a procedure has at all depths; None if it is not right, as above."""
    if not is_row(value, 2) or not is_name(value[0]):
        return None
    return block_size(value[1], MOST_NESTED, room)


def tree_fault(value):
    """The index of the first procedure of a tree that is not right, or None."""
    if not is_sequence(value) or len(value) == 0:
        return 0
    room = MOST_STATEMENTS
    for index in range(len(value)):
        size = procedure_size(value[index], room)
        if size is None or index == MOST_PROCEDURES:
            return index
        room -= size
    return None


def as_tuples(value):
    """A right tree with tuples at every level."""
    if not is_sequence(value):
        return value
    return tuple([as_tuples(part) for part in value])


def called_name(condition):
    """The name that a condition calls, or None if it is a test."""
    while condition[0] == "not":
        condition = condition[1]
    return condition[1] if condition[0] == "call" else None


def names_called(block):
    """The names that the statements of a block call, in the order of the written text."""
    names = []
    for statement in block:
        if statement[0] == "call":
            names.append(statement[1])
        elif statement[0] in ("if", "while") and called_name(statement[1]) is not None:
            names.append(called_name(statement[1]))
        for inner in blocks_of(statement):
            names.extend(list(names_called(inner)))
    return names
