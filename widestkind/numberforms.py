"""Numbers at run: quotients with measures, and the trees as which they are written."""
from math import gcd
from widestkind.measures import power, times

TOO_GREAT = 1000000000000
MOST_POWER = 99
ZERO = ("number", 0, None)


def has_digits(number):
    """Whether an integer has few enough digits to be written."""
    return -TOO_GREAT < number < TOO_GREAT


def has_powers(measure):
    """Whether all powers of a measure are small enough to be written."""
    return all([-MOST_POWER <= number <= MOST_POWER for _, number in measure])


def is_count(tree):
    """Whether a tree is a number from 1 on that can be written."""
    if tree[0] != "number" or tree[1] == 0 or not has_digits(tree[1]):
        return False
    return tree[2] is None or has_powers(tree[2])


def is_above(tree):
    """Whether a tree is the form of a number above 0."""
    if tree[0] != "op" or tree[1] != "/":
        return is_count(tree)
    _, _, top, bottom = tree
    if not is_count(top) or not is_count(bottom) or bottom[2] is not None or bottom[1] == 1:
        return False
    return gcd(top[1], bottom[1]) == 1


def is_number_form(tree):
    """Whether a tree is the form of a number."""
    if tree[0] == "op" and tree[1] == "-":
        return tree[2] == ZERO and is_above(tree[3])
    return tree == ZERO if tree[0] == "number" and tree[1] == 0 else is_above(tree)


def number_of(form):
    """The tuple of the top, the bottom and the measure of the number with a form."""
    if form[0] == "number":
        return form[1], 1, form[2] or ()
    if form[1] == "-":
        top, bottom, measure = number_of(form[3])
        return -top, bottom, measure
    return form[2][1], form[3][1], form[2][2] or ()


def form_of(top, bottom, measure):
    """The form of the quotient of two integers, of which the second one is above 0, or None if it has none."""
    if top == 0:
        return ZERO
    common = gcd(top, bottom)
    top = top // common
    bottom = bottom // common
    if not has_digits(top) or not has_digits(bottom) or not has_powers(measure):
        return None
    form = ("number", abs(top), measure if measure else None)
    if bottom != 1:
        form = ("op", "/", form, ("number", bottom, None))
    return form if top > 0 else ("op", "-", ZERO, form)


def worked_out(sign, one, other):
    """What comes of `+ - * /` of two numbers, which are tuples of a top, a bottom and a measure.

    It is such a tuple; None for unlike measures where they have to be the same. Nothing is divided by 0.
    """
    top, bottom, measure = one
    second, under, scale = other
    if sign == "*":
        return top * second, bottom * under, times(measure, scale)
    if sign == "/":
        turn = 1 if second > 0 else -1
        return turn * top * under, turn * bottom * second, times(measure, power(scale, -1))
    if top != 0 and second != 0 and measure != scale:
        return None
    turn = 1 if sign == "+" else -1
    return top * under + turn * second * bottom, bottom * under, scale if top == 0 else measure
