"""What has to be put in the place of some names of kinds to get others."""
from widestkind.kindwalks import kinds_in
from widestkind.measures import power, solve_measures, times
from widestkind.powers import is_name, measure_of, names_of

ANY_KIND = ("record", (), None)


def things_between(pairs, loose):
    """The dict from kind names and row names to what stands in their place, and the pairs of measures that differ.

    Each pair has a kind that is a filling of the other one, of which some names are filled and all others stay.
    """
    found = {}
    measures = []
    waiting = list(pairs)
    while waiting:
        kind, other = waiting.pop()
        if other[0] == "name":
            if other[1] in loose:
                found[other[1]] = kind
        elif other[0] == "num":
            measures.append((kind[1], other[1]))
        elif other[0] in ("record", "variant"):
            labels = {label: inner for label, inner in other[1]}
            if other[2] in loose:
                found[other[2]] = (tuple([entry for entry in kind[1] if entry[0] not in labels]), kind[2])
            waiting.extend([(inner, labels[label]) for label, inner in kind[1] if label in labels])
        else:
            waiting.extend(list(zip(kinds_in(kind), kinds_in(other))))
    return found, measures


def measures_between(pairs, loose):
    """The dict from measure names to what has to be put in their place so that the measures of pairs are the same."""
    equations = [times(other, power(measure, -1)) for measure, other in pairs]
    fixed = [name for name in names_of(equations) if name not in loose]
    known = {name: True for name in fixed}
    solved = solve_measures(equations, fixed=fixed)
    found = {}
    for name, measure in solved.items():
        kept = {factor: number for factor, number in measure if factor in known or not is_name(factor)}
        found[name] = measure_of(kept)
    return found


def table_between(pairs, names):
    """The table of some names by which the second kinds of pairs become the first ones."""
    loose = {name: True for name in names}
    things, measures = things_between(pairs, loose)
    solved = measures_between(measures, loose)
    table = []
    for name in names:
        if name in things:
            table.append((name, things[name]))
        else:
            table.append((name, solved.get(name, ANY_KIND)))
    return tuple(table)
