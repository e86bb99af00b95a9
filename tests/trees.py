"""Trees of programs for the tests: drawn ones, and their tokens in a written form of our own."""

import random

NAMES = ["main", "f", "gg", "abcdefghijkl", "z"]
MARKS = ["a", "b", "c", "A", "Z"]
SIGNS = ["<", ">", "a", "b", "c"]


def draw_test(rng, levels):
    """A test that is at most so many levels deep."""
    word = rng.choice(["at", "at", "top", "same", "not", "and", "or", "and", "or"])
    if levels == 1 and word in ("not", "and", "or"):
        word = "at"
    if word == "at":
        return ("at", rng.choice(SIGNS))
    if word == "top":
        return ("top", rng.choice(MARKS + [""]))
    if word == "same":
        return ("same",)
    if word == "not":
        return ("not", draw_test(rng, levels - 1))
    return (word, draw_test(rng, levels - 1), draw_test(rng, levels - 1))


def draw_condition(rng, names, levels):
    """A condition, a call or a test."""
    if rng.random() < 0.7:
        return draw_test(rng, levels)
    condition = ("call", rng.choice(names))
    for _ in range(rng.choice([0, 0, 1, 1, 2, 3])):
        condition = ("not", condition)
    return condition


def draw_block(rng, names, levels, most=4, without=()):
    """A block whose statements are at most so many levels deep."""
    words = ["left", "right", "right", "pop", "yes", "no", "push", "push", "say", "call", "halt", "if", "if", "while",
             "either"]
    block = []
    for _ in range(rng.randint(0, most)):
        word = rng.choice([one for one in words if one not in without])
        if word in ("if", "while", "either") and levels == 1:
            word = "right"
        blocks = tuple(draw_block(rng, names, levels - 1, most - 1, without) for _ in range(2)) if levels > 1 else None
        if word in ("left", "right", "pop", "yes", "no"):
            block.append((word,))
        elif word == "push":
            block.append((word, rng.choice(MARKS + ["here", "here"])))
        elif word == "say":
            block.append((word, rng.choice(["a", "k", "z", "here"])))
        elif word == "call":
            block.append((word, rng.choice(names)))
        elif word == "halt":
            block.append((word, rng.choice(["yes", "no"])))
        elif word == "if":
            block.append((word, draw_condition(rng, names, 4)) + blocks)
        elif word == "while":
            block.append((word, draw_condition(rng, names, 4), blocks[0]))
        else:
            block.append((word,) + blocks)
    return tuple(block)


def draw_tree(rng, levels=3, procedures=3, most=4, without=()):
    """A right tree."""
    names = NAMES[: rng.randint(1, procedures)]
    return tuple((name, draw_block(rng, names, levels, most, without)) for name in names)


def drawn_trees(seed, number, **how):
    """So many drawn trees, always the same for a seed."""
    rng = random.Random(seed)
    return [draw_tree(rng, **how) for _ in range(number)]


def condition_tokens(condition):
    """The tokens of a condition, with brackets around every test with parts."""
    word = condition[0]
    if word in ("call", "at"):
        return [word, condition[1]]
    if word == "top":
        return [word, condition[1] or "none"]
    if word == "same":
        return [word]
    if word == "not":
        return [word] + condition_tokens(condition[1])
    return ["("] + condition_tokens(condition[1]) + [word] + condition_tokens(condition[2]) + [")"]


def block_tokens(block):
    """The tokens of a block."""
    tokens = []
    for statement in block:
        word = statement[0]
        if word == "if":
            tokens += ["if"] + condition_tokens(statement[1]) + ["then"] + block_tokens(statement[2])
            tokens += (["else"] + block_tokens(statement[3]) if statement[3] else []) + ["end"]
        elif word == "while":
            tokens += ["while"] + condition_tokens(statement[1]) + ["do"] + block_tokens(statement[2]) + ["end"]
        elif word == "either":
            tokens += ["either"] + block_tokens(statement[1]) + ["or"] + block_tokens(statement[2]) + ["end"]
        else:
            tokens += list(statement)
    return tokens


def tree_tokens(tree):
    """The tokens of a tree."""
    return [token for name, block in tree for token in ["to", name] + block_tokens(block) + ["end"]]


def nested(levels, inner=(("left",),), word="while"):
    """A block with a statement so many levels deep; inner stands in the deepest one but one."""
    block = inner
    for _ in range(levels - 1):
        block = (("while", ("same",), block),) if word == "while" else (("either", (), block),)
    return block


def deep_condition(levels, inner=("same",), word="not"):
    """A condition that is so many levels deep."""
    condition = inner
    for _ in range(levels - 1):
        condition = ("not", condition) if word == "not" else (word, ("same",), condition)
    return condition
