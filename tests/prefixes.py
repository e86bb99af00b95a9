"""The form of point 45 as a grammar, tried in all ways at once: which token is the first that can't stand."""

import functools

MARKS = "abcdefghijklmnopqrstuvwxyzABCDEFGHIJKLMNOPQRSTUVWXYZ"
RESERVED = (
    "to end left right pop yes no push here say call if then else while do either or halt not and at top none same"
).split()

# Words stand for themselves. A class of tokens is a function; (name, number) is a part of the form, with
# the depth of its statements, or the number of nots and brackets that are open.


def a_name(token):
    return 1 <= len(token) <= 12 and all(mark in MARKS[:26] for mark in token) and token not in RESERVED


def a_mark(token):
    return len(token) == 1 and token in MARKS


def a_letter(token):
    return len(token) == 1 and token in MARKS[:26]


def a_sign(token):
    return a_letter(token) or token in ("<", ">")


def ways(part, number):
    """The rows of symbols that a part of the form may be."""
    if part == "program":
        return [["to", a_name, ("block", 1), "end", ("procedures", 0)]]
    if part == "procedures":
        return [[], ["to", a_name, ("block", 1), "end", ("procedures", 0)]]
    if part == "block":
        return [[], [("statement", number), ("block", number)]]
    if part == "statement":
        if number == 9:
            return []
        inner = ("block", number + 1)
        return [
            ["left"], ["right"], ["pop"], ["yes"], ["no"], ["push", a_mark], ["push", "here"], ["say", a_letter],
            ["say", "here"], ["call", a_name], ["halt", "yes"], ["halt", "no"],
            ["if", ("condition", 0), "then", inner, "end"],
            ["if", ("condition", 0), "then", inner, "else", inner, "end"],
            ["while", ("condition", 0), "do", inner, "end"], ["either", inner, "or", inner, "end"],
        ]
    if part == "condition":
        return [[("calling", 0)], [("test", 0)]]
    if part == "calling":
        return [["call", a_name]] + ([["not", ("calling", number + 1)]] if number < 8 else [])
    if part == "test":
        return [[("part", number), ("parts", number)]]
    if part == "parts":
        return [[], ["or", ("part", number), ("parts", number)]]
    if part == "part":
        return [[("unit", number), ("units", number)]]
    if part == "units":
        return [[], ["and", ("unit", number), ("units", number)]]
    simple = [["at", a_sign], ["top", a_mark], ["top", "none"], ["same"]]
    if number == 8:
        return simple
    return simple + [["not", ("unit", number + 1)], ["(", ("test", number + 1), ")"]]


@functools.lru_cache(maxsize=20000)
def expanded(stack):
    """The stacks that a stack may become before the next token; a stack's first symbol is its last item."""
    if not stack or not isinstance(stack[-1], tuple):
        return frozenset([stack])
    found = frozenset()
    for way in ways(*stack[-1]):
        found |= expanded(stack[:-1] + tuple(way[::-1]))
    return found


def after(stacks, token):
    """The stacks behind a token; none if it can't stand there."""
    return frozenset(
        more
        for stack in stacks
        if stack and (stack[-1] == token if isinstance(stack[-1], str) else stack[-1](token))
        for more in expanded(stack[:-1])
    )


START = expanded((("program", 0),))


def first_bad(tokens):
    """The number of the first bad token, the number of all for a proper beginning, None for a program."""
    stacks = START
    for place, token in enumerate(tokens):
        stacks = after(stacks, token)
        if not stacks:
            return place
    return None if () in stacks else len(tokens)
