"""Words, tags, kind names and integers, as the document tells them."""

OWN_WORDS = {"fn": True, "let": True, "in": True, "rec": True, "match": True, "with": True, "fail": True, "num": True}


SMALL_LETTERS = "abcdefghijklmnopqrstuvwxyz"
CAPITALS = "ABCDEFGHIJKLMNOPQRSTUVWXYZ"
DIGITS = "0123456789"


def run_end(text, begin, signs, most):
    """The index behind the signs of some sort that stand from `begin` on, of which `most` count."""
    stretch = text[begin:begin + most]
    return begin + len(stretch) - len(stretch.lstrip(signs))


def word_end(text, begin):
    """The index behind the word, own words included, that begins there; `begin` itself if there is none."""
    letters = run_end(text, begin, SMALL_LETTERS, 6)
    if letters == begin or not "1" <= text[letters:letters + 1] <= "9":
        return letters
    return run_end(text, letters, DIGITS, 3)


def tag_end(text, begin):
    """The index behind the tag that begins there; `begin` itself if there is none."""
    if run_end(text, begin, CAPITALS, 1) == begin:
        return begin
    return run_end(text, begin + 1, SMALL_LETTERS, 5)


def number_end(text, begin):
    """The index behind the number that begins there; `begin` itself if there is none."""
    if text[begin:begin + 1] == "0":
        return begin + 1
    return run_end(text, begin, DIGITS, len(text))


def is_word(value):
    """Whether any value is a word."""
    if not isinstance(value, str) or value == "" or value in OWN_WORDS:
        return False
    if value.isascii() and value.isalpha() and value.islower():
        return len(value) <= 6
    return word_end(value, 0) == len(value)


def is_plain_word(value):
    """Whether any value is a word without a number."""
    return is_word(value) and "a" <= value[-1] <= "z"


def is_tag(value):
    """Whether any value is a tag."""
    return isinstance(value, str) and value != "" and tag_end(value, 0) == len(value)


def is_kind_name(value):
    """Whether any value is a kind name."""
    return isinstance(value, str) and value[:1] == "'" and is_word(value[1:])


def is_integer(value):
    """Whether any value is an integer; True and False are none."""
    return isinstance(value, int) and not isinstance(value, bool)
