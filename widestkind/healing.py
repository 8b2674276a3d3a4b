"""Texts that are not built as they should be, and what has to be done to them."""
from widestkind.deeds import are_deeds, done
from widestkind.errors import BadDeeds, KindError, TooMany
from widestkind.floorcosts import Costs, Ways
from widestkind.healrows import FORMS
from widestkind.names import binder_numbers
from widestkind.reading import is_built, read, tokens
from widestkind.shapes import folded, rebuilt
from widestkind.solving import fits
from widestkind.trees import text_of
from widestkind.wholes import Whole
from widestkind.words import is_integer

MOST_TOKENS = 24
MOST_HEALINGS = 300


def token_list(text):
    """The list of the tokens of a text."""
    found = [token for token, _ in tokens(text)]
    if len(found) > MOST_TOKENS:
        raise TooMany(len(found))
    return found


def whole_tree(words):
    """What a list of tokens is to become: one tree."""
    return ("form", "tree", 0, len(words))


def healed(text, deeds):
    """The text with the tokens that come of a list of deeds."""
    words = token_list(text)
    if not are_deeds(deeds, words):
        raise BadDeeds(deeds)
    return done(words, deeds)


def is_healing(text, value):
    """Whether any value is a list of deeds by which a text becomes a built text."""
    words = token_list(text)
    return are_deeds(value, words) and is_built(done(words, value))


def distance(text):
    """The least number of deeds by which a text becomes a built text."""
    words = token_list(text)
    return Ways(Costs(words, None)).cost(whole_tree(words))


def heal(text):
    """The healed text of a healing with as few deeds as can be."""
    words = token_list(text)
    return done(words, Ways(Costs(words, None)).first_way(whole_tree(words)))


def healings(text):
    """The ascending list of all healings with as few deeds as can be."""
    words = token_list(text)
    found = Ways(Costs(words, None)).all_ways(whole_tree(words), MOST_HEALINGS)
    if found is None:
        raise TooMany(MOST_HEALINGS)
    return sorted([list(way) for way in found])


def keys_of_floors(many):
    """The list of the keys of a table of floors for a text with so many tokens."""
    found = []
    for form in FORMS:
        for begin in range(many + 1):
            found.extend([(form, begin, end) for end in range(begin, many + 1)])
    return found


def floors(text):
    """The table of floors with the greatest values."""
    words = token_list(text)
    costs = Costs(words, None)
    return {(form, begin, end): costs.cost(form, begin, end) for form, begin, end in keys_of_floors(len(words))}


def are_floors(text, value):
    """Whether any value is a table of floors of a text."""
    words = token_list(text)
    keys = keys_of_floors(len(words))
    if not isinstance(value, dict) or len(value) != len(keys):
        return False
    for key in value:
        if not isinstance(key, tuple) or len(key) != 3 or not is_integer(key[1]) or not is_integer(key[2]):
            return False
    for key in keys:
        if key not in value or not is_integer(value[key]) or value[key] < 0:
            return False
    costs = Costs(words, value)
    return not any([value[key] > costs.need(key[0], key[1], key[2]) for key in keys])


def without_stand_in(tree):
    """The tree in which the free names `x` are faults."""
    numbers = binder_numbers(tree)

    def changed(part, number, inner):
        if part[0] == "name" and part[1] == "x" and numbers[number] is None:
            return ("fail", "x")
        return rebuilt(part, inner)

    return folded(tree, changed)


def is_right(book, text):
    """Whether a text can be read and has a kind, whatever its stand-ins stand for."""
    try:
        tree = read(text)
        if "x" not in book.definitions():
            tree = without_stand_in(tree)
        return fits(Whole(book, text_of(tree)))
    except KindError:
        return False


def heal_right(book, text):
    """The healed text of the first healing, with as few deeds as can be, whose healed text is right; or None."""
    words = token_list(text)
    for deeds in healings(text):
        found = done(words, deeds)
        if is_right(book, found):
            return found
    return None
