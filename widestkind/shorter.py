"""Steps that make texts shorter."""
from widestkind.errors import BadName, BadStep, BadText, BadTree, Twice
from widestkind.keptwords import apart, with_kept_words
from widestkind.names import alike, plain_text
from widestkind.reading import read
from widestkind.shapes import parts_of
from widestkind.shortsteps import RULES, Short
from widestkind.trees import is_tree, text_of
from widestkind.wholes import Whole
from widestkind.words import is_integer


def steps(whole):
    """The list of all steps of a whole, as tuples of a rule and the number of a part."""
    tree, _ = apart(whole.tree())
    return Short(tree).all_steps()


def is_step(short, rule, number):
    """Whether any two values are a rule and the number of a part at which it makes a step."""
    if not isinstance(rule, str) or rule not in RULES or not is_integer(number):
        return False
    return 0 <= number < len(short.steps) and short.result_of(rule, number) is not None


def step(whole, rule, number):
    """The whole behind a step."""
    tree, words = apart(whole.tree())
    short = Short(tree)
    if not is_step(short, rule, number):
        raise BadStep((rule, number))
    return Whole(whole.book, text_of(with_kept_words(short.after(rule, number), words)))


def weight(tree):
    """The number of the parts of a tree, where a `rec` counts as three."""
    if not is_tree(tree):
        raise BadTree(tree)
    return sum([3 if part[0] == "rec" else 1 for part in parts_of(tree)])


def all_the_way(whole):
    """The list of steps, one after the other, behind which there is none any more, and the tree that is left."""
    tree, _ = apart(whole.tree())
    found = []
    while True:
        short = Short(tree)
        first = short.first_step()
        if first is None:
            return found, tree
        found.append(first)
        tree = short.after(first[0], first[1])


def shortest(whole):
    """The text at which all rows of steps end, with plain names."""
    return plain_text(all_the_way(whole)[1])


def shortening(whole):
    """A list of steps, done one after the other, that ends where there is no step any more."""
    return all_the_way(whole)[0]


def tree_behind(whole, chain):
    """The tree to which any value leads if it is a list of steps that can be done one after the other; or None."""
    if not isinstance(chain, (list, tuple)):
        return None
    tree, _ = apart(whole.tree())
    for one in chain:
        short = Short(tree)
        if not isinstance(one, tuple) or len(one) != 2 or not is_step(short, one[0], one[1]):
            return None
        tree = short.after(one[0], one[1])
    return tree


def judge_chain(whole, chain, text):
    """Whether any value is a list of steps that lead to a text."""
    tree = tree_behind(whole, chain)
    if tree is None:
        return False
    try:
        other = read(text)
    except (BadText, Twice, BadName):
        return False
    return alike(tree, other)


def same_end(one, other):
    """Whether two wholes for equal books have the same shortest text."""
    if not one.book == other.book:
        raise BadStep(other)
    return shortest(one) == shortest(other)
