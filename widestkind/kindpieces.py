"""How pieces of kinds and measures are made of the pieces in them."""
from widestkind.pieces import Piece


def make_measure(items, begin, end, notes):
    factors = []
    numbers = []
    sign = 1
    for item in items:
        if item.part == "-":
            sign = -1
        elif "0" <= item.part[0] <= "9":
            numbers[-1] = sign * int(item.part)
            sign = 1
        else:
            factors.append(item)
            numbers.append(1)
    notes.unlike(factors)
    for factor in factors:
        if factor.part[0] == "'":
            notes.use(factor, "measure")
    measure = sorted([(factor.part, number) for factor, number in zip(factors, numbers)])
    return Piece(tuple(measure), begin, end)


def make_num(items, begin, end, notes):
    measure = items[0].part if items else ()
    return Piece(("num", measure), begin, end)


def make_name(items, begin, end, notes):
    notes.use(items[0], "kind")
    return Piece(("name", items[0].part), begin, end)


def make_fn(items, begin, end, notes):
    return Piece(("fn", items[0].part, items[1].part), begin, end)


def make_own(items, begin, end, notes):
    kinds = tuple([item.part for item in items[1:]])
    return Piece(("own", items[0].part, kinds), begin, end)


def make_row(head, items, begin, end, notes):
    """A record or a variant: labels or tags and kinds in turn, and perhaps a row name."""
    labels = items[:len(items) // 2 * 2:2]
    notes.unlike(labels)
    rest = None
    if len(items) > 2 * len(labels):
        rest = items[-1].part
        notes.use(items[-1], head, [label.part for label in labels])
    entries = [(label.part, item.part) for label, item in zip(labels, items[1::2])]
    return Piece((head, tuple(sorted(entries, key=lambda entry: entry[0])), rest), begin, end)


def make_record(items, begin, end, notes):
    return make_row("record", items, begin, end, notes)


def make_variant(items, begin, end, notes):
    return make_row("variant", items, begin, end, notes)


def make_owner(items, begin, end, notes):
    """The name of a line of a book and its parameters."""
    return Piece((items[0].part, tuple([item.part for item in items[1:]])), begin, end)


def make_constructor(items, begin, end, notes):
    """A tag and its content, which is a kind by itself; a tag that stands alone has the content `{}`."""
    notes.end_kind()
    kind = items[1].part if len(items) > 1 else ("record", (), None)
    return Piece((items[0].part, kind), begin, end)


# By the symbols of the grammar.
KIND_MAKERS = {
    "?owner": make_owner,
    "?constructor": make_constructor,
    "?measure": make_measure,
    "?num": make_num,
    "?name": make_name,
    "?fn": make_fn,
    "?own": make_own,
    "?record": make_record,
    "?variant": make_variant,
}
