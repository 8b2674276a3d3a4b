"""Kinds, their texts, and the filling of the names in them."""
from widestkind.errors import BadFilling
from widestkind.kindwalks import first_uses, folded, rebuilt, uses_in
from widestkind.measures import fill_measure, is_measure, measure_text
from widestkind.parsing import read_kind_piece
from widestkind.pieces import first_stray
from widestkind.words import is_kind_name, is_plain_word, is_tag, is_word

ANY_KIND = ("record", (), None)
ANY_ROW = ((), None)


def row_kinds(head, value):
    """The values that must be kinds if any value is to be the entries of a row, or None if it is not built so."""
    if not isinstance(value, tuple):
        return None
    found = []
    last = ""
    for entry in value:
        if not isinstance(entry, tuple) or len(entry) != 2:
            return None
        label = entry[0]
        if not (is_word(label) if head == "record" else is_tag(label)) or label <= last:
            return None
        last = label
        found.append(entry[1])
    return found


def inner_values(value):
    """The values that must be kinds if any value is to be a kind, or None if it is not built like one."""
    if not isinstance(value, tuple) or len(value) < 2 or not isinstance(value[0], str):
        return None
    head = value[0]
    if len(value) == 2:
        if head == "num":
            return [] if is_measure(value[1]) else None
        return [] if head == "name" and is_kind_name(value[1]) else None
    if len(value) != 3:
        return None
    if head == "fn":
        return value[1:]
    if head in ("record", "variant") and (value[2] is None or is_kind_name(value[2])):
        return row_kinds(head, value[1])
    if head == "own" and is_plain_word(value[1]) and isinstance(value[2], tuple) and len(value[2]) <= 3:
        return value[2]
    return None


def is_built_kind(value):
    """Whether any value is built like a kind, whatever its names stand for."""
    waiting = [value]
    while waiting:
        inner = inner_values(waiting.pop())
        if inner is None:
            return False
        waiting.extend(inner)
    return True


def is_kind(value):
    """Whether any value is a kind."""
    return is_built_kind(value) and first_stray(uses_in(value)) is None


def are_kinds(value):
    """Whether any value is a list of kinds that can be told together."""
    if not isinstance(value, (list, tuple)):
        return False
    uses = []
    for item in value:
        if not is_built_kind(item):
            return False
        uses.extend(uses_in(item))
    return first_stray(uses) is None


def row_text(kind, texts):
    """The text of a record or a variant, of which the texts of the kinds in it are told."""
    entries = [entry[0] + " : " + text for entry, text in zip(kind[1], texts)]
    text = ", ".join(entries)
    if kind[2] is not None:
        text = text + (" | " if entries else "| ") + kind[2]
    if kind[0] == "record":
        return "{" + text + "}"
    return "<" + text + ">"


def joined_text(kind, texts):
    """The text of a kind, of which the texts of the kinds in it are told."""
    if kind[0] == "num":
        return "num" if kind[1] == () else "num[" + measure_text(kind[1]) + "]"
    if kind[0] == "name":
        return kind[1]
    if kind[0] == "own":
        return kind[1] if kind[2] == () else kind[1] + "(" + ", ".join(texts) + ")"
    if kind[0] == "fn":
        one = "(" + texts[0] + ")" if kind[1][0] == "fn" else texts[0]
        return one + " -> " + texts[1]
    return row_text(kind, texts)


def kind_text(kind):
    """The text of a kind."""
    return folded(kind, joined_text)


def read_kind(text):
    """The kind with a text."""
    return read_kind_piece(text).part


def names_in(kinds):
    """The names in a list of kinds: those for kinds, for rows of records and of variants, and for measures."""
    uses = first_uses(kinds)
    sorts = ("kind", "record", "variant", "measure")
    lists = [[name for name, use in uses.items() if use[0] == sort] for sort in sorts]
    return lists[0], lists[1], lists[2], lists[3]


def is_row(thing):
    """Whether a kind, a row or a measure is a row."""
    return len(thing) == 2 and isinstance(thing[0], tuple) and (thing[1] is None or isinstance(thing[1], str))


def may_fill(thing, use):
    """Whether a kind, a row or a measure can come in the place of a name with a use."""
    sort, labels = use
    if sort == "kind":
        return len(thing) > 0 and isinstance(thing[0], str)
    if sort == "measure":
        return is_measure(thing)
    if not is_row(thing):
        return False
    for entry in thing[0]:
        if is_tag(entry[0]) != (sort == "variant") or entry[0] in labels:
            return False
    return True


def fill_row(kind, inner, row):
    """A record or a variant with a row in the place of its row name."""
    entries = list(rebuilt(kind, inner)[1]) + list(row[0])
    return (kind[0], tuple(sorted(entries, key=lambda entry: entry[0])), row[1])


def fill_all(kind, table):
    """The kind with things in the place of names, which are of the sorts that the names stand for."""
    def filled_part(part, inner):
        if part[0] == "num":
            return ("num", fill_measure(part[1], table))
        if part[0] == "name":
            return table.get(part[1], part)
        if part[0] in ("record", "variant") and part[2] in table:
            return fill_row(part, inner, table[part[2]])
        return rebuilt(part, inner)

    return folded(kind, filled_part)


def fill(kind, table):
    """The kind with kinds, rows and measures in the place of names, all at once, as a dict tells."""
    uses = first_uses([kind])
    for name, thing in table.items():
        if name in uses and not may_fill(thing, uses[name]):
            raise BadFilling(name)
    return fill_all(kind, table)


def closed(kind):
    """The kind with nothing left open: records without entries, no further entries and no measure for names."""
    things = {"kind": ANY_KIND, "record": ANY_ROW, "variant": ANY_ROW, "measure": ()}
    return fill_all(kind, {name: things[use[0]] for name, use in first_uses([kind]).items()})
