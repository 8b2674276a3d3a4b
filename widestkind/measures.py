"""Measures: products of powers of base measures and of names that stand for measures."""
from math import lcm
from widestkind.equations import open_names, worked_out
from widestkind.errors import BadText
from widestkind.powers import add_times, is_name, measure_of
from widestkind.ratios import Ratio, terms
from widestkind.words import DIGITS, SMALL_LETTERS, is_integer, is_kind_name, is_word, run_end, word_end


def is_factor(value):
    """Whether any value is a base measure or a measure name."""
    return is_word(value) or is_kind_name(value)


def is_measure(value):
    """Whether any value is a measure."""
    if not isinstance(value, tuple):
        return False
    last = ""
    for item in value:
        if not isinstance(item, tuple) or len(item) != 2:
            return False
        factor, number = item
        if not is_factor(factor) or not is_integer(number) or number == 0 or factor <= last:
            return False
        last = factor
    return True


def times(one, other):
    """The product of two measures."""
    total = dict(one)
    add_times(total, dict(other), 1)
    return measure_of(total)


def power(measure, n):
    """The product of n measures, or of -n inverses if n is below 0."""
    return measure_of({factor: number * n for factor, number in measure})


def measure_text(measure):
    """The factors, separated by spaces, each with its power if this is not 1."""
    written = []
    for factor, number in measure:
        written.append(factor if number == 1 else factor + "^" + str(number))
    return " ".join(written)


def greatest_factor(begin):
    """The greatest factor that begins so."""
    quote = begin[:1] if is_name(begin) else ""
    word = begin[len(quote):]
    letters = run_end(word, 0, SMALL_LETTERS, 6)
    if letters == len(word):
        return quote + word + "z" * (6 - letters) + "999"
    return quote + word + "9" * (3 + letters - len(word))


def begins_factor(begin, last):
    """Whether some factor behind the factor `last` begins so."""
    word = begin[1:] if is_name(begin) else begin
    return word_end(word, 0) == len(word) and greatest_factor(begin) > last


def read_factor(text, begin, last):
    """The index behind the factor that begins there and comes behind the factor `last`."""
    end = begin
    while end < len(text) and begins_factor(text[begin:end + 1], last):
        end += 1
    factor = text[begin:end]
    if not is_factor(factor) or factor <= last:
        raise BadText(end)
    return end


def read_power(text, begin):
    """The index behind the power that begins there, which is neither 0 nor 1."""
    digits = begin + 1 if text[begin:begin + 1] == "-" else begin
    if text[digits:digits + 1] == "0":
        raise BadText(digits)
    end = run_end(text, digits, DIGITS, len(text))
    if end == digits or text[begin:end] == "1":
        raise BadText(end)
    return end


def read_measure(text):
    """The measure with a text."""
    found = []
    at = 0
    last = ""
    while text != "":
        end = read_factor(text, at, last)
        last = text[at:end]
        number = 1
        if text[end:end + 1] == "^":
            begin = end + 1
            end = read_power(text, begin)
            number = int(text[begin:end])
        found.append((last, number))
        if end == len(text):
            break
        if text[end] != " " or not begins_factor("", last):
            raise BadText(end)
        at = end + 1
    return tuple(found)


def fill_measure(measure, table):
    """The measure with other measures in the place of measure names, all at once, as a dict tells."""
    total = {}
    for factor, number in measure:
        if is_name(factor) and factor in table:
            add_times(total, dict(table[factor]), number)
        else:
            add_times(total, {factor: 1}, number)
    return measure_of(total)


def solve_measures(equations, *, fixed=()):
    """The dict from the open names to measures of which all solutions come, or None."""
    return worked_out(equations, fixed)[0]


def is_solution(equations, value, *, fixed=()):
    """Whether any value is a dict from just the open names to measures that solves equations."""
    names = open_names(equations, fixed)
    if not isinstance(value, dict) or len(value) != len(names):
        return False
    for name in names:
        if name not in value or not is_measure(value[name]):
            return False
    for measure in equations:
        if fill_measure(measure, value) != ():
            return False
    return True


def measure_paper(equations, *, fixed=()):
    """A list of Ratios, one for each equation, that shows that there is no solution; or None."""
    return worked_out(equations, fixed)[1]


def is_measure_paper(equations, value, *, fixed=()):
    """Whether any value is a measure paper of equations."""
    if not isinstance(value, (list, tuple)) or len(value) != len(equations):
        return False
    for item in value:
        if not isinstance(item, Ratio) and not is_integer(item):
            return False
    whole = 1
    for item in value:
        whole = lcm(whole, terms(item)[1])
    sums = {}
    for item, measure in zip(value, equations):
        top, bottom = terms(item)
        add_times(sums, dict(measure), top * (whole // bottom))
    names = {name: True for name in open_names(equations, fixed)}
    uneven = [factor for factor, total in sums.items() if total % whole != 0]
    return uneven != [] and not any([factor in names for factor in uneven])
