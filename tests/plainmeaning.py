"""The meaning of programs by point 50, statement by statement over the tree; and their nodes by point 52."""

import sys

# Each call takes some calls of Python's own.
sys.setrecursionlimit(20000)


class OutOfMoves(Exception):
    pass


class Halted(Exception):
    pass


class PlainMeaning:
    """A program that is being done."""

    def __init__(self, tree, text, limit, choices=()):
        self.tree = dict(tree)
        self.first = tree[0][0]
        self.text = text
        self.limit = limit
        self.choices = list(choices)
        self.place = self.moves = 0
        self.said = ""

    def told(self):
        """What `meaning` returns."""
        try:
            answer = self.call(self.first, True)
        except Halted as halted:
            answer = halted.args[0]
        except OutOfMoves:
            return None
        return answer, self.place, self.said, self.moves

    def move(self, number=1):
        self.moves += number
        if self.moves > self.limit:
            raise OutOfMoves

    def sign(self):
        if self.place == 0:
            return "<"
        return ">" if self.place == len(self.text) + 1 else self.text[self.place - 1]

    def call(self, name, first=False):
        """Does a procedure with a new stack and returns its answer."""
        own = []
        answer = self.block(self.tree[name], own) or "yes"
        self.move()
        self.move(len(own))
        if not first:
            self.move()
        return answer

    def holds(self, condition, own):
        """Asks a condition."""
        word = condition[0]
        if "call" in str(condition):
            turns = 0
            while condition[0] == "not":
                turns += 1
                condition = condition[1]
            self.move()
            return (self.call(condition[1]) == "yes") == (turns % 2 == 0)
        self.move()
        return self.test(word, condition, own)

    def test(self, word, condition, own):
        if word == "at":
            return self.sign() == condition[1]
        if word == "top":
            return (own[-1] if own else "") == condition[1]
        if word == "same":
            return self.sign() not in "<>" and bool(own) and own[-1] == self.sign()
        parts = [self.test(part[0], part, own) for part in condition[1:]]
        return {"not": lambda: not parts[0], "and": lambda: all(parts), "or": lambda: any(parts)}[word]()

    def block(self, block, own):
        """Does a block; returns the answer that it gives, or None at its end."""
        for statement in block:
            answer = self.statement(statement, own)
            if answer:
                return answer
        return None

    def statement(self, statement, own):
        word = statement[0]
        if word == "if":
            return self.block(statement[2] if self.holds(statement[1], own) else statement[3], own)
        if word == "while":
            while self.holds(statement[1], own):
                answer = self.block(statement[2], own)
                if answer:
                    return answer
            return None
        self.move()
        if word in ("yes", "no"):
            # The move of the answer itself is counted when the call ends.
            self.moves -= 1
            return word
        if word == "halt":
            raise Halted(statement[1])
        if word == "call":
            self.call(statement[1])
        if word == "either":
            return self.block(statement[2] if self.choices and self.choices.pop(0) else statement[1], own)
        letter = statement[1] if len(statement) > 1 else ""
        if letter == "here":
            letter = self.sign() if self.sign() not in "<>" else ""
        if word == "left":
            self.place = max(self.place - 1, 0)
        elif word == "right":
            self.place = min(self.place + 1, len(self.text) + 1)
        elif word == "push" and letter:
            own.append(letter)
        elif word == "pop" and own:
            own.pop()
        elif word == "say":
            self.said += letter
        return None


class PlainFlow:
    """The nodes of a tree. A statement is told by its path: the procedure, then indexes of statements and parts."""

    def __init__(self, tree):
        self.tree = tree
        self.numbers = {}
        self.statements = {}
        for index, (_, block) in enumerate(tree):
            self.number_block((index,), block)
            self.numbers[(index, "last")] = len(self.numbers)

    def number_block(self, path, block):
        for at, statement in enumerate(block):
            self.numbers[path + (at,)] = len(self.numbers)
            self.statements[path + (at,)] = statement
            for part, inner in enumerate(statement):
                if part and isinstance(inner, tuple) and not (part == 1 and statement[0] in ("if", "while")):
                    self.number_block(path + (at, part), inner)

    def following(self, path):
        """The next node of a statement."""
        sibling = path[:-1] + (path[-1] + 1,)
        return self.numbers[sibling] if sibling in self.numbers else self.behind(path[:-1])

    def behind(self, block):
        """What would be the next node of the last statement of a block."""
        if len(block) == 1:
            return self.numbers[(block[0], "last")]
        owner = block[:-1]
        return self.numbers[owner] if self.statements[owner][0] == "while" else self.following(owner)

    def first(self, block):
        return self.numbers[block + (0,)] if block + (0,) in self.numbers else self.behind(block)

    def procedure(self, name):
        return self.first(([one for one, _ in self.tree].index(name),))

    def nodes(self):
        ordered = sorted(self.numbers, key=self.numbers.get)
        return tuple(self.node(path) for path in ordered)

    def node(self, path):
        if path[-1] == "last":
            return ("give", "yes")
        statement = self.statements[path]
        word, behind = statement[0], self.following(path)
        if word in ("left", "right"):
            return ("move", -1 if word == "left" else 1, behind)
        if word in ("push", "say"):
            return statement + (behind,)
        if word == "pop":
            return ("pop", behind)
        if word == "call":
            return ("call", self.procedure(statement[1]), behind, behind)
        if word == "either":
            return ("guess", self.first(path + (1,)), self.first(path + (2,)))
        if word == "halt":
            return statement
        if word in ("yes", "no"):
            return ("give", word)
        ways = [self.first(path + (2,)), self.first(path + (3,)) if word == "if" else behind]
        condition, turns = statement[1], 0
        while condition[0] == "not":
            condition, turns = condition[1], turns + 1
        if condition[0] == "call":
            return ("call", self.procedure(condition[1])) + tuple(ways[::-1] if turns % 2 else ways)
        return ("test", statement[1]) + tuple(ways)
