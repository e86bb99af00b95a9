"""The library: programs for texts over abc."""

from pilerecall.errors import NoSuchProgram
from pilerecall.reading import read_program
from pilerecall.writing import write_program

NAMES = (
    "mirrored", "found", "bordered", "mirrorstart", "balanced", "evenly", "copied", "thirds", "power", "backwards",
    "doubling", "chant", "rounds", "twomirrors", "evenmirrors",
)

PROGRAMS = {
    # All letters are pushed. What is popped then, from the first letter on, is the text from its end.
    "mirrored": """
        to mirrored
            right
            while not at > do push here right end
            while not at < do left end
            right
            while same do pop right end
            if not top none then no end
        end
    """,
    # What stands behind the only c is pushed, so that its first letter is the top. The text before
    # the c is held against it; what was popped is pushed again, and the top is left out.
    "found": """
        to found
            call check
            while not at c do push here left end
            while not at < do left end
            while at < do
                right
                while same do pop right end
                if at c then yes end
                if top none then no end
                left
                while not at < do push here left end
                pop
            end
        end
        to check
            right
            while at a or at b do right end
            if at > then halt no end
            right
            while at a or at b do right end
            if at c then halt no end
            left
        end
    """,
    # In the same way each ending but the whole text is held against the beginning of the text.
    "bordered": """
        to bordered
            right
            while not at > do right end
            left
            while not at < do push here left end
            pop
            while not top none do
                right
                while same do pop right end
                if top none then yes end
                left
                while not at < do push here left end
                pop
            end
            no
        end
    """,
    # Here the stack has a beginning of the text, its last letter on top. The first letter of the
    # text is not pushed: it is compared with the top at once, and so with the last letter.
    "mirrorstart": """
        to mirrorstart
            right right
            while not at > do push here right end
            while not at < do left end
            while not top none do
                right
                while same do pop right end
                if top none then yes end
                left
                while not at < do push here left end
                pop
            end
            no
        end
    """,
    "balanced": """
        to balanced
            right
            while not at > do
                if at a then push a end
                if at b then
                    if top none then no end
                    pop
                end
                right
            end
            if not top none then no end
        end
    """,
    # The stack has the letter of which there have been more, as many times as there have been more.
    "evenly": """
        to evenly
            right
            while not at > do
                if not at c then
                    if same or top none then push here else pop end
                end
                right
            end
            if not top none then no end
        end
    """,
    # What stands before the first c is popped from the end of the text on; behind that is the only c.
    "copied": """
        to copied
            right
            while at a or at b do push here right end
            if at > then no end
            while not at > do right end
            left
            while same do pop left end
            if not at c or not top none then no end
            left
            while not at < do
                if at c then no end
                left
            end
        end
    """,
    # The b are gone through twice, once for the a and once for the c.
    "thirds": """
        to thirds
            right
            while at a do push a right end
            while at b and not top none do pop right end
            if at b or not top none then no end
            left
            while at b do push b left end
            right
            while at b do right end
            while at c and not top none do pop right end
            if not at > or not top none then no end
        end
    """,
    # The place of the head, at first the number of letters, is halved as long as it is even.
    "power": """
        to power
            right
            while not at > do right end
            left
            if at < then no end
            while call half do end
            no
        end
        to half
            left
            if at < then halt yes end
            right
            while not at < do
                left
                if at < then no end
                left
                push a
            end
            while not top none do pop right end
        end
    """,
    "backwards": """
        to backwards
            right
            while not at > do right end
            left
            while not at < do say here left end
        end
    """,
    # Each letter doubles what is printed from the place behind it on.
    "doubling": """
        to doubling
            right
            call behind
        end
        to behind
            if at > then
                say a
            else
                right
                call behind
                call behind
                left
            end
        end
    """,
    "chant": """
        to chant
            while at < do
                right
                while not at > do say here right end
                while not at < do left end
            end
        end
    """,
    "rounds": """
        to rounds
            while at < do
                right
                while not at > do push here right end
                while not at < do left end
            end
        end
    """,
    # A part is pushed up to its middle, which is guessed, and popped behind it. Its length may be odd.
    "twomirrors": """
        to twomirrors
            right
            call part
            call part
            if not at > then no end
        end
        to part
            while call guess do
                if at > then halt no end
                push here right
            end
            if call guess then
                if at > then halt no end
                right
            else
                if top none then halt no end
            end
            while same do pop right end
            if not top none then halt no end
        end
        to guess
            either yes or no end
        end
    """,
    "evenmirrors": """
        to evenmirrors
            right
            while not at > do call part end
        end
        to part
            push here right
            while call guess do
                if at > then halt no end
                push here right
            end
            while same do pop right end
            if not top none then halt no end
        end
        to guess
            either yes or no end
        end
    """,
}


def check_name(name):
    """Raises NoSuchProgram if a value is not the name of a program of the library."""
    if not isinstance(name, str) or name not in NAMES:
        raise NoSuchProgram(name)


def named(name):
    """A program of the library."""
    check_name(name)
    return read_program(PROGRAMS[name])


def named_text(name):
    """The text of a program of the library."""
    return write_program(named(name))
