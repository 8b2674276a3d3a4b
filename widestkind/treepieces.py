"""How pieces of trees, rows and patterns are made of the pieces in them."""
from widestkind.pieces import Piece, all_pieces


def make_fn(items, begin, end, notes):
    word, body = items
    return Piece(("fn", word.part, body.part), begin, end, (body,))


def make_let(items, begin, end, notes):
    word, given, body = items
    return Piece(("let", word.part, given.part, body.part), begin, end, (given, body))


def make_rec(items, begin, end, notes):
    word, other, given, body = items
    notes.unlike([word, other])
    return Piece(("rec", word.part, other.part, given.part, body.part), begin, end, (given, body))


def make_op(items, begin, end, notes):
    one, sign, other = items
    return Piece(("op", sign.part, one.part, other.part), begin, end, (one, other))


def make_call(items, begin, end, notes):
    called, given = items
    return Piece(("call", called.part, given.part), begin, end, (called, given))


def make_field(items, begin, end, notes):
    record, label = items
    return Piece(("field", record.part, label.part), begin, end, (record,))


def make_name(items, begin, end, notes):
    return Piece(("name", items[0].part), begin, end)


def make_number(items, begin, end, notes):
    measure = items[1].part if len(items) > 1 else None
    return Piece(("number", int(items[0].part), measure), begin, end)


def make_inner(items, begin, end, notes):
    """What stands in brackets, which do not belong to it."""
    item = items[0]
    return Piece(item.part, item.begin, item.end, item.inner, begin)


def make_told(items, begin, end, notes):
    tree, kind = items
    notes.end_kind()
    return Piece(("told", tree.part, kind.part), begin, end, (tree,))


def make_record(items, begin, end, notes):
    labels = items[::2]
    inner = items[1::2]
    notes.unlike(labels)
    entries = tuple([(label.part, item.part) for label, item in zip(labels, inner)])
    return Piece(("record", entries), begin, end, tuple(inner))


def make_with(items, begin, end, notes):
    record, label, entry = items
    return Piece(("with", record.part, label.part, entry.part), begin, end, (record, entry))


def make_tag(items, begin, end, notes):
    """A tag with its content; a tag that stands alone has the content `{}` in the same place."""
    content = items[1] if len(items) > 1 else Piece(("record", ()), begin, end)
    return Piece(("tag", items[0].part, content.part), begin, end, (content,))


def make_match(items, begin, end, notes):
    rows = tuple([item.part for item in items[1:]])
    return Piece(("match", items[0].part, rows), begin, end, tuple(items))


def make_row(items, begin, end, notes):
    pattern, tree = items
    bound = [piece for piece in all_pieces(pattern) if piece.part[0] == "bind"]
    notes.unlike([Piece(piece.part[1], piece.begin, piece.end) for piece in bound])
    return Piece((pattern.part, tree.part), begin, end, (pattern, tree))


def make_fail(items, begin, end, notes):
    return Piece(("fail", items[0].part), begin, end)


def make_macro(items, begin, end, notes):
    parts = tuple([item.part for item in items[1:]])
    return Piece(("macro", items[0].part, parts), begin, end, tuple(items[1:]))


def make_any(items, begin, end, notes):
    return Piece(("any",), begin, end)


def make_bind(items, begin, end, notes):
    return Piece(("bind", items[0].part), begin, end)


# By the symbols of the grammar.
TREE_MAKERS = {
    "!fn": make_fn,
    "!let": make_let,
    "!rec": make_rec,
    "!op": make_op,
    "!call": make_call,
    "!field": make_field,
    "!name": make_name,
    "!number": make_number,
    "!inner": make_inner,
    "!told": make_told,
    "!record": make_record,
    "!with": make_with,
    "!tag": make_tag,
    "!match": make_match,
    "!row": make_row,
    "!fail": make_fail,
    "!macro": make_macro,
    "!any": make_any,
    "!bind": make_bind,
}
