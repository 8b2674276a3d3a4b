"""Words, tags, kind names and integers, as the document tells them."""

OWN_WORDS = {"fn": True, "let": True, "in": True, "rec": True, "match": True, "with": True, "fail": True, "num": True}


def run_end(text, begin, low, high, most):
    """The index behind the signs from `low` to `high` that stand from `begin` on, of which `most` count."""
    at = begin
    while at < len(text) and at - begin < most and low <= text[at] <= high:
        at += 1
    return at


def word_end(text, begin):
    """The index behind the word, own words included, that begins there; `begin` itself if there is none."""
    letters = run_end(text, begin, "a", "z", 6)
    if letters == begin or text[letters:letters + 1] == "0":
        return letters
    return run_end(text, letters, "0", "9", 3)


def tag_end(text, begin):
    """The index behind the tag that begins there; `begin` itself if there is none."""
    if run_end(text, begin, "A", "Z", 1) == begin:
        return begin
    return run_end(text, begin + 1, "a", "z", 5)


def number_end(text, begin):
    """The index behind the number that begins there; `begin` itself if there is none."""
    if text[begin:begin + 1] == "0":
        return begin + 1
    return run_end(text, begin, "0", "9", len(text))


def is_word(value):
    """Whether any value is a word."""
    if not isinstance(value, str) or value == "" or value in OWN_WORDS:
        return False
    if len(value) == 1:
        return "a" <= value <= "z"
    return word_end(value, 0) == len(value)


def is_plain_word(value):
    """Whether any value is a word without a number."""
    return is_word(value) and "a" <= value[-1] <= "z"


def is_tag(value):
    """Whether any value is a tag."""
    return isinstance(value, str) and value != "" and tag_end(value, 0) == len(value)


def is_kind_name(value):
    """Whether any value is a kind name."""
    return isinstance(value, str) and value[:1] == "'" and is_word(value[1:])


def is_integer(value):
    """Whether any value is an integer; True and False are none."""
    return isinstance(value, int) and not isinstance(value, bool)
