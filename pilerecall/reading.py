"""Programs read from their texts, token by token."""

from pilerecall.checks import is_letter
from pilerecall.errors import BadToken
from pilerecall.programs import Program
from pilerecall.trees import BARE, MOST_NESTED, is_end_sign, is_here, is_mark, is_name

MOST_CHARACTERS = 20000
MOST_OPEN = 8
STARTERS = ("left", "right", "pop", "yes", "no", "push", "say", "call", "halt", "if", "while", "either")


class Reader:
    """Goes through the tokens of a text from the first one to the last."""

    def __init__(self, tokens):
        self.tokens = tokens
        self.at = 0

    def token(self):
        """The present token, or the empty string behind the last one."""
        return self.tokens[self.at] if self.at < len(self.tokens) else ""

    def take(self, fits):
        """Goes on behind the present token and returns it, if it is said to fit."""
        if not fits:
            raise BadToken(self.at)
        token = self.token()
        self.at += 1
        return token

    def take_word(self, word):
        """Goes on behind the present token, which has to be this word."""
        return self.take(self.token() == word)

    def calls(self):
        """Whether the present condition is a call, behind any number of nots."""
        at = self.at
        while at < len(self.tokens) and self.tokens[at] == "not":
            at += 1
        return at < len(self.tokens) and self.tokens[at] == "call"


def tokens_of(text):
    """The tokens of a text: what stands between spaces and newlines."""
    return [token for token in text.replace("\n", " ").split(" ") if token != ""]


def read_nots(reader, opened):
    """The number of nots that begin here, while so many nots and brackets are open."""
    nots = 0
    while reader.token() == "not":
        reader.take(opened + nots < MOST_OPEN)
        nots += 1
    return nots


def under_nots(nots, condition):
    """A condition under so many nots."""
    for _ in range(nots):
        condition = ("not", condition)
    return condition


def read_atom(reader, opened):
    """A unit without nots before it."""
    word = reader.token()
    if word == "(":
        reader.take(opened < MOST_OPEN)
        test = read_test(reader, opened + 1)
        reader.take_word(")")
        return test
    reader.take(word in ("at", "top", "same"))
    if word == "same":
        return (word,)
    token = reader.token()
    if word == "at":
        return (word, reader.take(is_letter(token) or is_end_sign(token)))
    reader.take(is_mark(token) or token == "none")
    return (word, "" if token == "none" else token)


def read_unit(reader, opened):
    """A unit."""
    nots = read_nots(reader, opened)
    return under_nots(nots, read_atom(reader, opened + nots))


def read_part(reader, opened):
    """Units joined by and."""
    part = read_unit(reader, opened)
    while reader.token() == "and":
        reader.take_word("and")
        part = ("and", part, read_unit(reader, opened))
    return part


def read_test(reader, opened):
    """Parts joined by or."""
    test = read_part(reader, opened)
    while reader.token() == "or":
        reader.take_word("or")
        test = ("or", test, read_part(reader, opened))
    return test


def read_call(reader):
    """A call, as a statement or as a condition."""
    reader.take_word("call")
    return ("call", reader.take(is_name(reader.token())))


def read_condition(reader):
    """A condition."""
    if not reader.calls():
        return read_test(reader, 0)
    nots = read_nots(reader, 0)
    return under_nots(nots, read_call(reader))


def read_pair(reader):
    """A statement with push, say or halt."""
    word = reader.take_word(reader.token())
    token = reader.token()
    if word == "push":
        return (word, reader.take(is_mark(token) or is_here(token)))
    if word == "say":
        return (word, reader.take(is_letter(token) or is_here(token)))
    return (word, reader.take(token in ("yes", "no")))


def read_if(reader, depth):
    """A statement with if."""
    reader.take_word("if")
    condition = read_condition(reader)
    reader.take_word("then")
    block = read_block(reader, depth + 1)
    other = ()
    if reader.token() == "else":
        reader.take_word("else")
        other = read_block(reader, depth + 1)
    reader.take_word("end")
    return ("if", condition, block, other)


def read_while(reader, depth):
    """A statement with while."""
    reader.take_word("while")
    condition = read_condition(reader)
    reader.take_word("do")
    block = read_block(reader, depth + 1)
    reader.take_word("end")
    return ("while", condition, block)


def read_either(reader, depth):
    """A statement with either."""
    reader.take_word("either")
    block = read_block(reader, depth + 1)
    reader.take_word("or")
    other = read_block(reader, depth + 1)
    reader.take_word("end")
    return ("either", block, other)


def read_statement(reader, depth):
    """The statement that begins with the present token, so many levels deep."""
    word = reader.token()
    if word in BARE:
        return (reader.take_word(word),)
    if word == "call":
        return read_call(reader)
    if word == "if":
        return read_if(reader, depth)
    if word == "while":
        return read_while(reader, depth)
    if word == "either":
        return read_either(reader, depth)
    return read_pair(reader)


def read_block(reader, depth):
    """The statements up to the first token that begins none; the caller judges that one."""
    statements = []
    while reader.token() in STARTERS:
        if depth > MOST_NESTED:
            raise BadToken(reader.at)
        statements.append(read_statement(reader, depth))
    return tuple(statements)


def read_procedure(reader):
    """A procedure."""
    reader.take_word("to")
    name = reader.take(is_name(reader.token()))
    block = read_block(reader, 1)
    reader.take_word("end")
    return (name, block)


def read_program(text):
    """The program that a text writes. Raises BadToken for the first token that can't stand there."""
    if len(text) > MOST_CHARACTERS:
        raise BadToken(-1)
    reader = Reader(tokens_of(text))
    procedures = [read_procedure(reader)]
    while reader.token() != "":
        procedures.append(read_procedure(reader))
    return Program(procedures)
