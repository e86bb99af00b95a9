"""Flows: the nodes of a program, numbered in the order of the written text."""

from pilerecall.trees import blocks_of, called_name

STEPS = {"left": -1, "right": 1}


def size_of(block):
    """The number of statements of a block at all depths."""
    return len(block) + sum([size_of(inner) for statement in block for inner in blocks_of(statement)])


def first_of(block, begin, behind):
    """The first node of a block that begins at a number, or what is behind it if it is empty."""
    return begin if block else behind


def is_turned(condition):
    """Whether a condition stands under an odd number of nots."""
    turned = False
    while condition[0] == "not":
        turned = not turned
        condition = condition[1]
    return turned


def asking_node(condition, holds, fails, firsts):
    """The node of a condition, with the nodes to go on with if it holds and if it fails."""
    name = called_name(condition)
    if name is None:
        return ("test", condition, holds, fails)
    if is_turned(condition):
        return ("call", firsts[name], fails, holds)
    return ("call", firsts[name], holds, fails)


def simple_node(statement, following, firsts):
    """The node of a statement without blocks."""
    word = statement[0]
    if word in STEPS:
        return ("move", STEPS[word], following)
    if word == "pop":
        return ("pop", following)
    if word in ("push", "say"):
        return (word, statement[1], following)
    if word == "call":
        return ("call", firsts[statement[1]], following, following)
    return ("halt", statement[1]) if word == "halt" else ("give", word)


def headed_nodes(statement, number, following, firsts):
    """The nodes of a statement with blocks and of its blocks."""
    word = statement[0]
    behind = number if word == "while" else following
    begin = number + 1
    nodes = []
    begins = []
    for block in blocks_of(statement):
        begins.append(first_of(block, begin, behind))
        nodes.extend(list(block_nodes(block, begin, behind, firsts)))
        begin = number + 1 + len(nodes)
    if word == "either":
        return [("guess", begins[0], begins[1])] + nodes
    other = following if word == "while" else begins[1]
    return [asking_node(statement[1], begins[0], other, firsts)] + nodes


def statement_nodes(statement, number, following, firsts):
    """The nodes of a statement, the first of which has the number."""
    if blocks_of(statement):
        return headed_nodes(statement, number, following, firsts)
    return [simple_node(statement, following, firsts)]


def block_nodes(block, begin, behind, firsts):
    """The nodes of a block that begins at a number; behind is what follows its last statement."""
    nodes = []
    for index in range(len(block)):
        number = begin + len(nodes)
        following = behind
        if index < len(block) - 1:
            following = number + size_of((block[index],))
        nodes.extend(list(statement_nodes(block[index], number, following, firsts)))
    return nodes


def first_nodes(procedures):
    """The first node of each procedure, by its name."""
    firsts = {}
    begin = 0
    for name, block in procedures:
        firsts[name] = begin
        begin += size_of(block) + 1
    return firsts


def flow(program):
    """The nodes of a program, in the order of their numbers."""
    firsts = first_nodes(program.procedures)
    nodes = []
    for name, block in program.procedures:
        last = firsts[name] + size_of(block)
        nodes.extend(list(block_nodes(block, firsts[name], last, firsts)))
        nodes.append(("give", "yes"))
    return tuple(nodes)
