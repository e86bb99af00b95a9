"""Bills: how much there can be at most for a machine and a text of some length."""


def surfaces_at_most(machine, length):
    """The number of surfaces."""
    return machine.states * (len(machine.symbols) + 1) * (length + 2)


def meetings_at_most(machine, length):
    """A bound for the surfaces that an ask of an empty book works and recalls."""
    return 2 * surfaces_at_most(machine, length)


def edges_at_most(machine, length):
    """A bound for the edges of a net."""
    return surfaces_at_most(machine, length) ** 2


def rules_with(machine, deed):
    """How many rules of a machine have this deed."""
    return len([rule for rule in machine.rules if rule[5] == deed])


def joinings_at_most(machine, length):
    """A bound for the joinings of a net."""
    pairs = rules_with(machine, "push") * rules_with(machine, "pop")
    return pairs * machine.states * (len(machine.symbols) + 1) * (length + 2) ** 3
