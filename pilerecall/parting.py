"""The parting of the states of a machine into classes of states that do the same."""


def rules_by_state(machine):
    """The rules of each state, as a list of lists."""
    found = [[] for _ in range(machine.states)]
    for rule in machine.rules:
        found[rule[0]].append(rule)
    return found


def comers_by_state(machine):
    """For each state those with a rule that leads to it, as the keys of dicts."""
    found = [{} for _ in range(machine.states)]
    for rule in machine.rules:
        found[rule[3]][rule[0]] = True
    return found


def look_of(rules, classes):
    """What can be told of a state by its rules and the classes of the states that they lead to."""
    return tuple(sorted({rule[1:3] + (classes[rule[3]],) + rule[4:] for rule in rules}))


class Parting:
    """States in classes, which are parted until the states of each class can't be told apart."""

    def __init__(self, machine):
        yes = {state: True for state in machine.yes}
        self.rules = rules_by_state(machine)
        self.comers = comers_by_state(machine)
        self.classes = [1 if state in yes else 0 for state in range(machine.states)]
        self.made = 2

    def look(self, state):
        """What can be told of a state by now."""
        return look_of(self.rules[state], self.classes)

    def work_out(self):
        """Parts the classes as long as there is anything to part."""
        doubtful = {state: True for state in range(len(self.classes))}
        while doubtful:
            moved = self.moved_states(doubtful)
            doubtful = {comer: True for state in moved for comer in self.comers[state]}

    def moved_states(self, doubtful):
        """Parts each class once; returns the states that have left their classes.

        Doubtful are the states that lead to one that has left its class the time before. The other
        states of a class still look alike. All are looked at before any of them leaves its class.
        """
        classes = self.doubtful_classes(doubtful)
        leaving = [part for members in classes for part in self.leaving_parts(members, doubtful)]
        for part in leaving:
            for state in part:
                self.classes[state] = self.made
            self.made += 1
        return [state for part in leaving for state in part]

    def doubtful_classes(self, doubtful):
        """The classes, as lists of states, that have several states and a doubtful one among them."""
        members = {self.classes[state]: [] for state in doubtful}
        for state in range(len(self.classes)):
            if self.classes[state] in members:
                members[self.classes[state]].append(state)
        return [members[number] for number in members if len(members[number]) > 1]

    def leaving_parts(self, members, doubtful):
        """The parts of a class but for the greatest one, which keeps the number of the class."""
        parts = {}
        for state in members:
            if state in doubtful:
                parts.setdefault(self.look(state), []).append(state)
        sure = [state for state in members if state not in doubtful]
        if sure:
            # A look may be long, so one is taken for all that look alike.
            parts.setdefault(self.look(sure[0]), []).extend(list(sure))
        sizes = sorted([(len(parts[look]), look) for look in parts])
        return [parts[look] for _, look in sizes[:-1]]
