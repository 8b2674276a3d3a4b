"""Matches judged for all values: what they miss, and which rows are useless."""
from widestkind.errors import BadKnot
from widestkind.facts import is_knot_of
from widestkind.fillings import told
from widestkind.names import binder_numbers
from widestkind.shapes import parts_of
from widestkind.solving import kept_solution
from widestkind.standing import Standing, escaping, tests_of
from widestkind.trees import is_tree, text_of


def takes(pattern, tree):
    """Whether a pattern takes a value tree."""
    waiting = [(pattern, tree)]
    while waiting:
        one, value = waiting.pop()
        if one[0] in ("any", "bind"):
            continue
        if one[0] != value[0]:
            return False
        if one[0] == "tag":
            if one[1] != value[1]:
                return False
            waiting.append((one[2], value[2]))
        else:
            entries = dict(value[1])
            for label, inner in one[1]:
                if label not in entries:
                    return False
                waiting.append((inner, entries[label]))
    return True


def is_value_shape(tree):
    """Whether a tree has the form of a value tree."""
    waiting = [tree]
    while waiting:
        part = waiting.pop()
        if part[0] == "record":
            waiting.extend([inner for _, inner in part[1]])
        elif part[0] == "tag":
            waiting.append(part[2])
        elif part[0] not in ("number", "fn"):
            return False
    return True


def is_value_tree(value):
    """Whether any value is a value tree without free names."""
    if not is_tree(value) or not is_value_shape(value):
        return False
    for part, binder in zip(parts_of(value), binder_numbers(value)):
        if part[0] == "name" and binder is None:
            return False
    return True


def check_match(whole, knot):
    """Raises BadKnot unless any value is the number of a knot whose part is a match."""
    if not is_knot_of(whole, knot) or whole.part_of(knot)[0] != "match":
        raise BadKnot(knot)


def matched_kind(whole, knot):
    """The kind of what is matched at a knot."""
    check_match(whole, knot)
    return told(kept_solution(whole)[(whole.knots_within(knot)[0], "kind")])


def rows_of(whole, knot):
    """The list of the lists of what the pattern of each row of a match asks for."""
    return [tests_of(row[0]) for row in whole.part_of(knot)[2]]


def missed_value(standing, rows):
    """A value that no row takes, or None."""
    known = escaping(standing, rows, {}) if standing.has_values() else None
    return None if known is None else standing.value(known)


def missed(whole, knot):
    """The text of a value of a match that no row takes, or None."""
    standing = Standing(whole.book, matched_kind(whole, knot))
    value = missed_value(standing, rows_of(whole, knot))
    return None if value is None else text_of(value)


def leaks(whole):
    """The ascending list of the places of the matches that miss a value at some knot."""
    found = kept_solution(whole)
    places = {}
    for knot, (place, _, part) in enumerate(whole.knots()):
        if part[0] == "match" and place not in places:
            standing = Standing(whole.book, found[(whole.knots_within(knot)[0], "kind")])
            if missed_value(standing, rows_of(whole, knot)) is not None:
                places[place] = True
    return sorted(places)


def is_useless(standing, rows, index):
    """Whether each value that a row takes is taken by an earlier one."""
    tests = rows[index]
    return not standing.may_have(tests) or escaping(standing, rows[:index], dict(tests)) is None


def useless(whole, knot):
    """The ascending list of the numbers of the rows of a match that are useless."""
    standing = Standing(whole.book, matched_kind(whole, knot))
    rows = rows_of(whole, knot)
    return [index for index in range(len(rows)) if is_useless(standing, rows, index)]
