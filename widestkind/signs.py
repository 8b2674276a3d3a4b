"""How texts are cut into tokens."""
from widestkind.words import OWN_WORDS, number_end, tag_end, word_end

SIGNS = "(){}[]<>=,;:.|+-*/@^_"

# The sorts of tokens by the signs with which they begin, but for tokens that are a sort by themselves.
SORTS = {
    "a": "word", "b": "word", "c": "word", "d": "word", "e": "word", "f": "word", "g": "word", "h": "word",
    "i": "word", "j": "word", "k": "word", "l": "word", "m": "word", "n": "word", "o": "word", "p": "word",
    "q": "word", "r": "word", "s": "word", "t": "word", "u": "word", "v": "word", "w": "word", "x": "word",
    "y": "word", "z": "word",
    "A": "tag", "B": "tag", "C": "tag", "D": "tag", "E": "tag", "F": "tag", "G": "tag", "H": "tag", "I": "tag",
    "J": "tag", "K": "tag", "L": "tag", "M": "tag", "N": "tag", "O": "tag", "P": "tag", "Q": "tag", "R": "tag",
    "S": "tag", "T": "tag", "U": "tag", "V": "tag", "W": "tag", "X": "tag", "Y": "tag", "Z": "tag",
    "0": "number", "1": "number", "2": "number", "3": "number", "4": "number", "5": "number", "6": "number",
    "7": "number", "8": "number", "9": "number",
    "'": "'", "$": "$",
}


def token_end(text, begin, sort):
    """The index behind the token of a sort that begins there; `begin` itself if there is none."""
    if text[begin + 1:begin + 2] not in SORTS and sort not in ("'", "$"):
        return begin + 1
    if sort == "word":
        return word_end(text, begin)
    if sort == "tag":
        return tag_end(text, begin)
    if sort == "number":
        return number_end(text, begin)
    end = word_end(text, begin + 1)
    if end == begin + 1 or text[begin + 1:end] in OWN_WORDS:
        return begin
    return end


def cut(text):
    """The list of the tuples `(token, begin)` of a text up to the first wrong sign, their sorts, and its index or None.

    The sorts are those by which a row of the grammar is chosen.
    """
    found = []
    sorts = []
    close = False
    at = 0
    while at < len(text):
        sign = text[at]
        if sign == " ":
            close = False
            at += 1
        elif sign in SORTS:
            sort = SORTS[sign]
            end = token_end(text, at, sort)
            if end == at or close and sort not in ("'", "$"):
                return found, sorts, at
            token = text[at:end]
            found.append((token, at))
            sorts.append(token if token in OWN_WORDS else sort)
            close = True
            at = end
        elif sign in SIGNS:
            token = "->" if sign == "-" and text[at + 1:at + 2] == ">" else sign
            found.append((token, at))
            sorts.append(token)
            close = False
            at += len(token)
        else:
            return found, sorts, at
    return found, sorts, None
