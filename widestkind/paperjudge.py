"""Whether any value is a clash paper of a whole."""
from math import lcm
from widestkind.facts import behind, facts_of, is_knot_of, label_step
from widestkind.powers import add_times
from widestkind.ratios import Ratio, terms
from widestkind.words import is_integer, is_tag, is_word


def is_count(value):
    """Whether any value is an integer from 0 on."""
    return is_integer(value) and value >= 0


def is_step(value):
    """Whether any value is a string or an integer from 0 on."""
    return isinstance(value, str) or is_count(value)


def is_point(value):
    """Whether any value is what may stand for a point in a paper."""
    if not isinstance(value, tuple) or len(value) != 3 or not is_count(value[0]) or not isinstance(value[1], str):
        return False
    return isinstance(value[2], tuple) and all([is_step(step) for step in value[2]])


def is_label(value):
    """Whether any value is a label or a tag."""
    return is_word(value) or is_tag(value)


def is_label_step(step):
    """Whether a step leads to the entry of a label or to the content of a tag."""
    if not isinstance(step, str):
        return False
    return is_tag(step) or step[:1] == "." and is_word(step[1:])


def has_shape(value, sorts):
    """Whether any value is a tuple of one string and of so many values, which are counts at `#`, labels at `a`."""
    if not isinstance(value, tuple) or len(value) != len(sorts) + 1 or not isinstance(value[0], str):
        return False
    for item, sort in zip(value[1:], sorts):
        if sort == "#" and not is_count(item) or sort == "a" and not is_label(item):
            return False
    return True


# What stands behind the first words of the reasons of steps, of ends, and of what rows of powers name.
SHAPES = {
    ("reason", "fact"): "##",
    ("reason", "one"): "",
    ("reason", "swap"): "#",
    ("reason", "chain"): "##",
    ("reason", "part"): "#?",
    ("reason", "but"): "##a",
    ("reason", "rest"): "##a",
    ("end", "heads"): "#####",
    ("end", "gone"): "#####",
    ("end", "ring"): "#",
    ("end", "powers"): "?",
    ("row", "fact"): "##",
    ("row", "step"): "#",
}


def is_shaped(value, sort):
    """Whether any value is a tuple whose first item is a word of a sort, with what stands behind this word."""
    if not isinstance(value, tuple) or value == () or not isinstance(value[0], str):
        return False
    return (sort, value[0]) in SHAPES and has_shape(value, SHAPES[(sort, value[0])])


class Facts:
    """The facts of a whole, each looked up once."""

    def __init__(self, whole):
        self.whole = whole
        self.known = {}

    def fact(self, knot, index, head):
        """The fact of a knot with an index if it begins with a word, or None."""
        if not is_knot_of(self.whole, knot):
            return None
        if knot not in self.known:
            self.known[knot] = facts_of(self.whole.laid(), knot)
        if index >= len(self.known[knot]) or self.known[knot][index][0] != head:
            return None
        return self.known[knot][index]


def link_points(facts, reason):
    """The two points to which a but fact or a rest fact leads with a label, or None."""
    head, knot, index, label = reason
    fact = facts.fact(knot, index, head)
    if fact is None:
        return None
    step = label_step(label)
    if head == "but":
        return None if label == fact[3] else (behind(fact[1], step), behind(fact[2], step))
    return None if label in fact[2] else (behind(fact[1], step), behind(fact[3], step))


def reason_points(facts, steps, reason, one):
    """The two points that are the same for a reason, by the steps ahead of it, or None if it is not right."""
    head = reason[0]
    if head == "one":
        return one, one
    if head == "fact":
        fact = facts.fact(reason[1], reason[2], "same")
        return None if fact is None else (fact[1], fact[2])
    if head in ("but", "rest"):
        return link_points(facts, reason)
    if reason[1] >= len(steps):
        return None
    first = steps[reason[1]]
    if head == "swap":
        return first[1], first[0]
    if head == "part":
        return (behind(first[0], reason[2]), behind(first[1], reason[2])) if is_step(reason[2]) else None
    if reason[2] >= len(steps) or first[1] != steps[reason[2]][0]:
        return None
    return first[0], steps[reason[2]][1]


def right_steps(facts, value):
    """The list of the pairs of points of steps, or None if any value is no list of right steps."""
    if not isinstance(value, (list, tuple)):
        return None
    steps = []
    for step in value:
        if not isinstance(step, tuple) or len(step) != 3 or not is_point(step[0]) or not is_point(step[1]):
            return None
        if not is_shaped(step[2], "reason"):
            return None
        points = reason_points(facts, steps, step[2], step[0])
        if points is None or points[0] != step[0] or points[1] != step[1]:
            return None
        steps.append(points)
    return steps


def is_heads_end(facts, one, other, end):
    """Whether a step leads from one head to an unlike one."""
    first = facts.fact(end[2], end[3], "head")
    second = facts.fact(end[4], end[5], "head")
    if first is None or second is None:
        return False
    return one == first[1] and other == second[1] and first[2] != second[2]


def is_gone_end(facts, one, other, end):
    """Whether a step leads from an entry that is there to one that may not be there."""
    first = facts.fact(end[2], end[3], "in")
    second = facts.fact(end[4], end[5], "only")
    if first is None or second is None or one != behind(first[1], label_step(first[2])):
        return False
    if other[2] == () or not is_label_step(other[2][-1]):
        return False
    step = other[2][-1]
    label = step[1:] if step[0] == "." else step
    return other == behind(second[1], step) and label not in second[2]


def is_ring_end(one, other):
    """Whether a step leads from a point to the same point with further steps."""
    many = len(one[2])
    return one[:2] == other[:2] and len(other[2]) > many and other[2][:many] == one[2]


def row_powers(facts, steps, what):
    """The powers of the points in a row, as tuples of a point and a number, and the measure; or None."""
    if what[0] == "fact":
        fact = facts.fact(what[1], what[2], "power")
        return None if fact is None else (fact[1], fact[2])
    if what[1] >= len(steps):
        return None
    one, other = steps[what[1]]
    return ((one, 1), (other, -1)), ()


def is_powers_end(facts, steps, value):
    """Whether rows show measures that cannot be."""
    if not isinstance(value, (list, tuple)):
        return False
    found = []
    whole = 1
    for row in value:
        if not isinstance(row, tuple) or len(row) != 2 or not (isinstance(row[0], Ratio) or is_integer(row[0])):
            return False
        told = row_powers(facts, steps, row[1]) if is_shaped(row[1], "row") else None
        if told is None:
            return False
        found.append((terms(row[0]), told))
        whole = lcm(whole, terms(row[0])[1])
    points = {}
    bases = {}
    for (top, bottom), (powers, measure) in found:
        for point, number in powers:
            add_times(points, {point: number}, top * (whole // bottom))
        add_times(bases, dict(measure), top * (whole // bottom))
    if any([total % whole != 0 for total in points.values()]):
        return False
    return any([total % whole != 0 for total in bases.values()])


def is_paper(whole, value):
    """Whether any value is a clash paper of a whole."""
    if not isinstance(value, tuple) or len(value) != 2:
        return False
    facts = Facts(whole)
    steps = right_steps(facts, value[0])
    end = value[1]
    if steps is None or not is_shaped(end, "end"):
        return False
    if end[0] == "powers":
        return is_powers_end(facts, steps, end[1])
    if end[1] >= len(steps):
        return False
    one, other = steps[end[1]]
    if end[0] == "heads":
        return is_heads_end(facts, one, other, end)
    if end[0] == "gone":
        return is_gone_end(facts, one, other, end)
    return is_ring_end(one, other)


def told_facts(paper):
    """The list of the tuples of a knot and an index of the facts that a paper names."""
    steps, end = paper
    found = [(reason[1], reason[2]) for _, _, reason in steps if reason[0] in ("fact", "but", "rest")]
    if end[0] == "powers":
        found.extend([(what[1], what[2]) for _, what in end[1] if what[0] == "fact"])
    elif end[0] != "ring":
        found.extend([(end[2], end[3]), (end[4], end[5])])
    return found
