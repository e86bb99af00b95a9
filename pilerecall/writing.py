"""Programs written as text."""

from pilerecall.trees import blocks_of

# The word between the two blocks of a statement.
BETWEEN = {"if": "else", "either": "or"}


def bracketed(written, needed):
    """A written condition, with brackets around it if they are needed."""
    return "( " + written + " )" if needed else written


def condition_text(condition):
    """A condition as it is written."""
    word = condition[0]
    if word == "not":
        inner = condition[1]
        return "not " + bracketed(condition_text(inner), inner[0] in ("and", "or"))
    if word in ("and", "or"):
        first, second = condition[1:]
        before = bracketed(condition_text(first), word == "and" and first[0] == "or")
        behind = bracketed(condition_text(second), second[0] == "or" or second[0] == word)
        return before + " " + word + " " + behind
    if word == "top" and condition[1] == "":
        return "top none"
    return " ".join(condition)


def head_text(statement):
    """The first line of a statement."""
    word = statement[0]
    if word == "if":
        return "if " + condition_text(statement[1]) + " then"
    if word == "while":
        return "while " + condition_text(statement[1]) + " do"
    if word == "either":
        return "either"
    return " ".join(statement)


def statement_lines(statement, indent):
    """The lines of a statement, which begin with so many spaces."""
    margin = " " * indent
    blocks = blocks_of(statement)
    lines = [margin + head_text(statement)]
    if not blocks:
        return lines
    lines.extend(list(block_lines(blocks[0], indent + 2)))
    if statement[0] == "either" or statement[0] == "if" and blocks[1]:
        lines.append(margin + BETWEEN[statement[0]])
        lines.extend(list(block_lines(blocks[1], indent + 2)))
    lines.append(margin + "end")
    return lines


def block_lines(block, indent):
    """The lines of the statements of a block."""
    return [line for statement in block for line in statement_lines(statement, indent)]


def write_program(program):
    """The written form of a program."""
    lines = []
    for name, block in program.procedures:
        lines.append("to " + name)
        lines.extend(list(block_lines(block, 2)))
        lines.append("end")
    return "".join([line + "\n" for line in lines])
