"""Which kinds are fillings of others, which are alike, and what kinds have in common."""
from widestkind.kinds import kind_text
from widestkind.kindwalks import first_uses, folded, kinds_in, kinds_of, rebuilt
from widestkind.measures import power, solve_measures, times
from widestkind.powers import is_name, measure_of, names_of
from widestkind.turning import turned
from widestkind.webs import Web, set_apart


def measures_in(kinds):
    """The list of the measures of all nums in a list of kinds, in the order of their texts."""
    return [part[1] for kind in kinds for part in kinds_of(kind) if part[0] == "num"]


def told_names(kinds):
    """The dict from the names for kinds and rows to the names that are told for them."""
    found = {}
    kind_count = 0
    row_count = 0
    for name, use in first_uses(kinds).items():
        if use[0] == "kind":
            kind_count += 1
            found[name] = "'a" + str(kind_count)
        elif use[0] != "measure":
            row_count += 1
            found[name] = "'r" + str(row_count)
    return found


def told_all(kinds):
    """The list of kinds that is told for all lists that are alike to a list of kinds told together."""
    kinds = list(kinds)
    names = told_names(kinds)
    measures = turned(measures_in(kinds))

    def told_part(part, inner):
        if part[0] == "num":
            return ("num", measures.pop())
        if part[0] == "name":
            return ("name", names[part[1]])
        made = rebuilt(part, inner)
        if part[0] in ("record", "variant"):
            return (made[0], made[1], names.get(part[2]))
        return made

    return [folded(kind, told_part) for kind in kinds[::-1]][::-1]


def told(kind):
    """The kind that is told for all kinds that are alike to a kind."""
    return told_all([kind])[0]


def same_there(found, name, thing):
    """Notes what must come in the place of a name; returns whether it is the same thing as before."""
    if name not in found:
        found[name] = thing
        return True
    return kind_text(found[name]) == kind_text(thing)


def match_row(kind, other, found):
    """The pairs of kinds that must match if two rows do, or None if they do not."""
    entries = dict(kind[1])
    labels = {label: True for label, _ in other[1]}
    for label in labels:
        if label not in entries:
            return None
    further = (kind[0], tuple([entry for entry in kind[1] if entry[0] not in labels]), kind[2])
    if other[2] is None:
        if further[1] or kind[2] is not None:
            return None
    elif not same_there(found, other[2], further):
        return None
    return [(entries[label], inner) for label, inner in other[1]]


def match_one(kind, other, found, pairs):
    """The pairs of kinds that must match if a kind does match another one, or None if it does not.

    What must come in the place of names is noted in `found`, the pairs of measures in `pairs`.
    """
    if other[0] == "name":
        return [] if same_there(found, other[1], kind) else None
    if kind[0] != other[0]:
        return None
    if kind[0] == "num":
        pairs.append((kind[1], other[1]))
        return []
    if kind[0] in ("record", "variant"):
        return match_row(kind, other, found)
    if kind[0] == "own" and (kind[1] != other[1] or len(kind[2]) != len(other[2])):
        return None
    return list(zip(kinds_in(kind), kinds_in(other)))


def match_measures(pairs):
    """The dict from the names in the second measures of pairs to measures that make them the first ones, or None."""
    equations = []
    for measure, other in pairs:
        equations.append(times(set_apart(other, "2"), power(set_apart(measure, "1"), -1)))
    fixed = names_of([set_apart(measure, "1") for measure, _ in pairs])
    solved = solve_measures(equations, fixed=fixed)
    if solved is None:
        return None
    back = {"'1" + name[1:]: name for name in names_of([measure for measure, _ in pairs])}
    found = {}
    for name in names_of([other for _, other in pairs]):
        measure = solved["'2" + name[1:]]
        kept = [(factor, number) for factor, number in measure if factor in back or not is_name(factor)]
        found[name] = measure_of({back.get(factor, factor): number for factor, number in kept})
    return found


def is_filling(kind, other):
    """Whether a kind is a filling of another one."""
    return filling(kind, other) is not None


def filling(kind, other):
    """The dict from all names of the other kind to what has to come in their place to get the kind, or None."""
    found = {}
    pairs = []
    waiting = [(kind, other)]
    while waiting:
        one, two = waiting.pop()
        follows = match_one(one, two, found, pairs)
        if follows is None:
            return None
        waiting.extend(follows)
    measures = match_measures(pairs)
    if measures is None:
        return None
    things = {}
    for name, use in first_uses([other]).items():
        if use[0] == "measure":
            things[name] = measures[name]
        elif use[0] == "kind":
            things[name] = found[name]
        else:
            things[name] = (found[name][1], found[name][2])
    return things


def common(one, other):
    """The list of the widest common fillings of two lists of kinds, one by one, or None."""
    return common_all([one, other])


def common_all(lists):
    """The list of the widest common fillings of several lists of kinds, one by one, or None."""
    web = Web()
    first = web.put_kinds(lists[0], "1")
    for index, kinds in enumerate(lists[1:]):
        for knot, other in zip(first, web.put_kinds(kinds, str(index + 2))):
            if not web.tie_together(knot, other):
                return None
    kinds = web.kinds_at(first)
    if kinds is None:
        return None
    return told_all(kinds)
