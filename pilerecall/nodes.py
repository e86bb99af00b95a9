"""What nodes see: the sign under the head and the top of the own stack."""


def named_letter(word, sign):
    """The letter that a push or a say names: the one under the head for here, none at an end sign."""
    if word != "here":
        return word
    return "" if sign in ("<", ">") else sign


def is_held(test, sign, top):
    """Whether a test holds with this sign under the head and this top of the own stack."""
    word = test[0]
    if word == "at":
        return test[1] == sign
    if word == "top":
        return test[1] == top
    if word == "same":
        # No mark is an end sign, and the empty top is no sign.
        return sign == top
    if word == "not":
        return not is_held(test[1], sign, top)
    if word == "and":
        return is_held(test[1], sign, top) and is_held(test[2], sign, top)
    return is_held(test[1], sign, top) or is_held(test[2], sign, top)
