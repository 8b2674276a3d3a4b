"""Deeds that are done to the tokens of a text."""
from widestkind.healrows import STAND_INS
from widestkind.signs import SIGNS
from widestkind.words import OWN_WORDS, is_integer


def may_be_put(token):
    """Whether a token is one of those that may be put in."""
    if token in OWN_WORDS or token == "->":
        return True
    return len(token) == 1 and token in SIGNS or token in list(STAND_INS.values())


def is_deed(value, tokens):
    """Whether any value is a deed for a list of tokens."""
    if not isinstance(value, tuple) or len(value) != 3 or not is_integer(value[0]) or value[0] < 0:
        return False
    at, what, token = value
    if not isinstance(what, str) or not isinstance(token, str):
        return False
    if what == "put":
        return at <= len(tokens) and may_be_put(token)
    if at >= len(tokens):
        return False
    if what == "drop":
        return token == ""
    return what == "swap" and may_be_put(token) and token != tokens[at]


def are_deeds(value, tokens):
    """Whether any value is a list of deeds for a list of tokens."""
    if not isinstance(value, (list, tuple)):
        return False
    least = 0
    for deed in value:
        if not is_deed(deed, tokens) or deed[0] < least:
            return False
        least = deed[0] if deed[1] == "put" else deed[0] + 1
    return True


def done(tokens, deeds):
    """The text of the tokens that come of a list of deeds."""
    found = []
    at = 0
    for number, what, token in deeds:
        found.extend(tokens[at:number])
        at = number
        if what != "drop":
            found.append(token)
        if what != "put":
            at = number + 1
    return " ".join(found + tokens[at:])
