"""Standings, and the standings after one step."""

from pilerecall.checks import check_plain, check_standing, check_text
from pilerecall.surfaces import signs_of

START = (0, 0, ())


def surface_of(standing):
    """The surface of a standing."""
    state, place, stack = standing
    return (state, place, stack[-1] if stack else "")


def stack_after(stack, deed, symbol):
    """The stack after a deed; the one before stays as it is."""
    if deed == "keep":
        return stack
    if deed == "pop":
        return stack[:-1]
    if deed == "push":
        return stack + (symbol,)
    return stack[:-1] + (symbol,)


def acts_at(machine, text, standing):
    """The acts that fit a standing."""
    state, place, top = surface_of(standing)
    return machine.acts(state, signs_of(text)[place], top)


def applied(standing, act):
    """The standing after an act."""
    after, move, deed, symbol, _ = act
    return (after, standing[1] + move, stack_after(tuple(standing[2]), deed, symbol))


def moves(machine, text, standing):
    """The standings after one step, one for each act, in the order of the acts."""
    check_text(machine, text)
    check_standing(machine, text, standing)
    return tuple([applied(standing, act) for act in acts_at(machine, text, standing)])


def step(machine, text, standing):
    """The standing after one step of a plain machine, or None if the run stops."""
    check_plain(machine, text)
    check_standing(machine, text, standing)
    acts = acts_at(machine, text, standing)
    return applied(standing, acts[0]) if acts else None


def lifted(standing, below):
    """The standing with the symbols below put beneath its stack."""
    state, place, stack = standing
    return (state, place, tuple(below) + tuple(stack))
