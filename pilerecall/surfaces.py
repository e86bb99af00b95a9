"""Surfaces: what lies under the head, which act fits, and where it leads."""

START_SURFACE = (0, 0, "")


def signs_of(text):
    """The signs at all places of a text; of an alphabet, all signs that a machine can meet."""
    return "<" + text + ">"


def acts_of(machine, signs, surface):
    """The acts of a machine at a surface, in ascending order."""
    state, place, top = surface
    return machine.acts(state, signs[place], top)


def act_of(machine, signs, surface):
    """The act of a plain machine at a surface, or None."""
    acts = acts_of(machine, signs, surface)
    return acts[0] if acts else None


def led_to(surface, act):
    """The surface directly after an act that does not pop."""
    top = surface[2] if act[2] == "keep" else act[3]
    return (act[0], surface[1] + act[1], top)


def back_to(surface, end):
    """The surface after a push at this surface, when what was pushed has fallen with this end."""
    return (end[1], end[2], surface[2])


def landing_of(surface, act):
    """The state and the place in which an act that pops lands."""
    return (act[0], surface[1] + act[1])
