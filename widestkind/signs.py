"""How texts are cut into tokens."""
from widestkind.words import OWN_WORDS, number_end, tag_end, word_end

SIGNS = "(){}[]<>=,;:.|+-*/@^_"


def token_end(text, begin):
    """The index behind the token that begins there; `begin` itself if there is none."""
    sign = text[begin]
    if sign in ("'", "$"):
        end = word_end(text, begin + 1)
        if end == begin + 1 or text[begin + 1:end] in OWN_WORDS:
            return begin
        return end
    if text[begin:begin + 2] == "->":
        return begin + 2
    if sign in SIGNS:
        return begin + 1
    return max(word_end(text, begin), tag_end(text, begin), number_end(text, begin))


def is_letters(token):
    """Whether a token is a word, an own word, a tag or a number, which need a space ahead of them."""
    return token[0] not in SIGNS and token[0] not in ("'", "$")


def cut(text):
    """The list of the tuples `(token, begin)` of a text up to the first wrong sign; and its index, or None."""
    found = []
    close = False
    at = 0
    while at < len(text):
        if text[at] == " ":
            close = False
            at += 1
            continue
        end = token_end(text, at)
        token = text[at:end]
        if end == at or close and is_letters(token):
            return found, at
        found.append((token, at))
        close = is_letters(token) or token[0] in ("'", "$")
        at = end
    return found, None
