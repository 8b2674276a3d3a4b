"""Powers of factors, kept in dicts from the factors to integers other than 0."""


def add_times(target, source, count):
    """Adds the powers of one dict, so many times, to those of another dict."""
    for factor, number in source.items():
        total = target.get(factor, 0) + count * number
        if total != 0:
            target[factor] = total
        elif factor in target:
            del target[factor]


def measure_of(table):
    """The measure with the powers of a dict."""
    return tuple(sorted([(factor, number) for factor, number in table.items() if number != 0]))


def is_name(factor):
    """Whether a factor of a measure is a measure name and no base measure."""
    return factor[:1] == "'"


def names_of(measures):
    """The measure names in a list of measures, each once, in the order in which they first stand."""
    found = {}
    for measure in measures:
        for factor, _ in measure:
            if is_name(factor):
                found[factor] = True
    return list(found)
