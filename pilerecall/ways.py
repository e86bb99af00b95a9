"""Ways: what the acts of surfaces lead to."""

from pilerecall.surfaces import acts_of, landing_of, led_to, signs_of


class Ways:
    """What the acts of the surfaces of a machine and a text lead to.

    A surface may be met behind many entries; its acts are looked up once.
    """

    def __init__(self, machine, text):
        self.machine = machine
        self.signs = signs_of(text)
        self.looked_up = {}

    def out_of(self, surface):
        """Three lists of pairs: the acts that stay at the level, those that push and those that pop.

        With each act stands what it leads to: a surface, the pushed surface, or a landing.
        """
        if surface not in self.looked_up:
            self.looked_up[surface] = self.found(surface)
        return self.looked_up[surface]

    def found(self, surface):
        """The three lists of a surface, looked up."""
        along, pushes, pops = [], [], []
        for act in acts_of(self.machine, self.signs, surface):
            if act[2] == "pop":
                pops.append((act, landing_of(surface, act)))
            elif act[2] == "push":
                pushes.append((act, led_to(surface, act)))
            else:
                along.append((act, led_to(surface, act)))
        return (along, pushes, pops)

    def stops(self, surface):
        """Whether a surface has no act."""
        along, pushes, pops = self.out_of(surface)
        return not along and not pushes and not pops

    def stops_with_yes(self, surface):
        """Whether a surface has no act and a yes state."""
        return self.stops(surface) and surface[0] in self.machine.yes
