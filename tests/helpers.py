"""Machines for the tests, and plain definitions against which the program is held."""

import random

from pilerecall.machines import Machine

PAIRS_RULES = [
    (0, "<", "", 1, 1, "keep", "", ""),
    (1, "a", "", 1, 1, "push", "a", ""),
    (1, "a", "a", 1, 1, "push", "a", ""),
    (1, "b", "a", 2, 1, "pop", "", ""),
    (2, "b", "a", 2, 1, "pop", "", ""),
    (1, ">", "", 3, 0, "keep", "", ""),
    (2, ">", "", 3, 0, "keep", "", ""),
]

TWICE_RULES = (
    [(0, "<", "", 0, 1, "keep", "", "")]
    + [(0, "a", top, 0, 1, "push", "x", "") for top in ("", "x", "y")]
    + [
        (0, ">", "", 3, 0, "keep", "", ""),
        (0, ">", "x", 1, 0, "pop", "", "k"),
        (0, ">", "y", 2, 0, "pop", "", "k"),
    ]
    + [(1, sign, top, 0, 0, "push", "y", "") for sign in "a>" for top in ("", "x", "y")]
    + [(2, sign, top, 3, -1, "keep", "", "") for sign in "a>" for top in ("", "x", "y")]
    + [(3, "a", "x", 1, 0, "pop", "", ""), (3, "a", "y", 2, 0, "pop", "", "")]
)


def pairs():
    """Says yes to some number of a followed by as many b."""
    return Machine("ab", 4, PAIRS_RULES, [3])


def twice():
    """Calls itself twice at each letter."""
    return Machine("a", 4, TWICE_RULES, [3])


def guessing():
    """A machine with two acts for one key."""
    rules = [
        (0, "<", "", 1, 1, "keep", "", ""),
        (0, "<", "", 0, 0, "push", "Z9", "q"),
        (1, "a", "", 0, -1, "keep", "", ""),
    ]
    return Machine("ab", 2, rules, [1])


def random_rule(rng, letters, states, tops, key):
    """A right rule with the key."""
    state, sign, top = key
    least = 0 if sign == "<" else -1
    most = 0 if sign == ">" else 1
    deeds = ["keep", "push", "push"] if top == "" else ["keep", "push", "pop", "pop", "swap"]
    deed = rng.choice(deeds)
    symbol = rng.choice(tops[1:]) if deed in ("push", "swap") else ""
    said = rng.choice(["", "", "", "k", "lm", "nop"])
    return (state, sign, top, rng.randrange(states), rng.randint(least, most), deed, symbol, said)


def random_machine(rng, letters="ab", most_states=5, most_symbols=3, many=1, fill=None):
    """A machine of rules that are drawn; plain if many is 1."""
    states = rng.randint(1, most_states)
    tops = [""] + ["A", "b", "c3"][: rng.randint(1, most_symbols)]
    fill = rng.choice([0.6, 0.8, 0.95, 1.0]) if fill is None else fill
    rules = []
    for state in range(states):
        for sign in "<>" + letters:
            for top in tops:
                for _ in range(many):
                    if rng.random() < fill:
                        rules.append(random_rule(rng, letters, states, tops, (state, sign, top)))
    yes = [state for state in range(states) if rng.random() < 0.5]
    return Machine(letters, states, rules, yes)


def random_text(rng, letters="ab", most=5):
    """A text that is drawn."""
    return "".join(rng.choice(letters) for _ in range(rng.randint(0, most)))


def cases(seed, number, **how):
    """Yields so many drawn pairs of a machine and a text, always the same for a seed."""
    rng = random.Random(seed)
    for _ in range(number):
        machine = random_machine(rng, **how)
        yield machine, random_text(rng, machine.letters)


def sign_at(text, place):
    """The sign at a place."""
    if place == 0:
        return "<"
    return ">" if place == len(text) + 1 else text[place - 1]


def rules_at(machine, text, standing):
    """The rules whose key fits a standing, looked for one by one."""
    state, place, stack = standing
    key = (state, sign_at(text, place), stack[-1] if stack else "")
    return [rule for rule in machine.rules if rule[:3] == key]


def after_rule(standing, rule):
    """The standing after a rule, by point 12."""
    _, place, stack = standing
    after, move, deed, symbol = rule[3:7]
    stack = list(stack)
    if deed in ("pop", "swap"):
        del stack[-1]
    if deed in ("push", "swap"):
        stack.append(symbol)
    return (after, place + move, tuple(stack))


def plain_steps(machine, text, start, limit):
    """Standings and letters of at most limit steps: (standings, said at each step, whether it stops)."""
    standings = [start]
    said = []
    while True:
        fitting = rules_at(machine, text, standings[-1])
        if not fitting:
            return standings, said, True
        if len(said) == limit:
            return standings, said, False
        standings.append(after_rule(standings[-1], fitting[0]))
        said.append(fitting[0][7])


def surface(standing):
    """The surface of a standing."""
    return (standing[0], standing[1], standing[2][-1] if standing[2] else "")


def all_surfaces(machine, text):
    """All surfaces of a machine and a text."""
    return [
        (state, place, top)
        for state in range(machine.states)
        for place in range(len(text) + 2)
        for top in ("",) + machine.symbols
    ]


def long_cases(seed, number):
    """Yields drawn machines like twice, with one to four other rules, whose runs are rather long."""
    rng = random.Random(seed)
    for _ in range(number):
        rules = {rule[:3]: rule for rule in twice().rules}
        for _ in range(rng.randint(1, 4)):
            key = (rng.randrange(4), rng.choice("<>aa"), rng.choice(["", "x", "y", "y"]))
            rules[key] = random_rule(rng, "a", 4, ["", "x", "y"], key)
        if rng.random() < 0.5:
            # What stopped goes back to the beginning, and may leave something on the stack.
            deed, symbol = rng.choice([("keep", ""), ("push", "x")])
            rules[(3, "<", "")] = (3, "<", "", 0, 0, deed, symbol, "r")
            deed, symbol = rng.choice([("keep", ""), ("push", "y")])
            rules[(0, "<", "x")] = (0, "<", "x", 0, 1, deed, symbol, "")
        yield Machine("a", 4, list(rules.values()), [3]), "a" * rng.randint(0, 5)
