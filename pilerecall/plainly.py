"""What the programs of the library answer and print, by plain definitions without any machine."""

from pilerecall.errors import BadText
from pilerecall.library import check_name

MOST_LETTERS = 400
# The texts for the programs that guess are shorter.
MOST_GUESSED = 40
GUESSING = ("twomirrors", "evenmirrors")


def is_mirrored(text):
    """Whether a text is the same read from its end."""
    return text == text[::-1]


def is_found(text):
    """Whether what stands before the only c is contained in what stands behind it."""
    before, _, behind = text.partition("c")
    return text.count("c") == 1 and before in behind


def is_bordered(text):
    """Whether a beginning, neither empty nor the whole text, is also an ending."""
    return any([text.startswith(text[size:]) for size in range(1, len(text))])


def has_mirrored_start(text):
    """Whether a beginning of at least two letters is mirrored."""
    return any([is_mirrored(text[:size]) for size in range(2, len(text) + 1)])


def is_balanced(text):
    """Whether a and b are closed as brackets are."""
    opened = 0
    for letter in text:
        if letter == "a":
            opened += 1
        elif letter == "b":
            opened -= 1
        if opened < 0:
            return False
    return opened == 0


def is_even(text):
    """Whether a text has as many a as b."""
    return text.count("a") == text.count("b")


def is_copied(text):
    """Whether the same stands before and behind the only c."""
    before, _, behind = text.partition("c")
    return text.count("c") == 1 and before == behind


def is_in_thirds(text):
    """Whether a text is some number of a, as many b and as many c."""
    number = len(text) // 3
    return text == "a" * number + "b" * number + "c" * number


def is_power(text):
    """Whether the number of letters is a power of two."""
    power = 1
    while power < len(text):
        power = power * 2
    return power == len(text)


def is_two_mirrors(text):
    """Whether a text is two mirrored texts, neither of them empty."""
    return any([is_mirrored(text[:size]) and is_mirrored(text[size:]) for size in range(1, len(text))])


def is_even_mirrors(text):
    """Whether a text is a row of mirrored texts, each with an even number of letters."""
    ends = {0: True}
    for end in range(2, len(text) + 1, 2):
        if any([is_mirrored(text[begin:end]) for begin in ends]):
            ends[end] = True
    return len(text) in ends


# The programs that answer yes to some texts and no to others.
JUDGES = {
    "mirrored": is_mirrored,
    "found": is_found,
    "bordered": is_bordered,
    "mirrorstart": has_mirrored_start,
    "balanced": is_balanced,
    "evenly": is_even,
    "copied": is_copied,
    "thirds": is_in_thirds,
    "power": is_power,
    "twomirrors": is_two_mirrors,
    "evenmirrors": is_even_mirrors,
}


def check_told(name, text):
    """Raises an error if a value is no name of a program, and then if one is no text for it."""
    check_name(name)
    most = MOST_GUESSED if name in GUESSING else MOST_LETTERS
    if not isinstance(text, str) or len(text) > most or not all([letter in "abc" for letter in text]):
        raise BadText(text)


def plainly(name, text):
    """The answer of a program of the library: yes, no or endless."""
    check_told(name, text)
    if name in ("chant", "rounds"):
        return "endless"
    if name not in JUDGES:
        return "yes"
    judge = JUDGES[name]
    return "yes" if judge(text) else "no"


def said_again_and_again(text, first, number):
    """So many letters of a text that is printed without end, from the letter with the number first on."""
    if text == "":
        return ""
    begin = first % len(text)
    return (text * (number // len(text) + 2))[begin:begin + number]


def said_plainly(name, text, first, last):
    """The letters that a program prints, with the numbers from first up to, not including, last."""
    check_told(name, text)
    if last <= first:
        return ""
    if name == "backwards":
        return text[::-1][first:last]
    if name == "doubling":
        # A string can't be repeated by a number of any size, not even by one below 0.
        return "a" * max(0, min(last, 1 << len(text)) - first)
    if name == "chant":
        return said_again_and_again(text, first, last - first)
    return ""
