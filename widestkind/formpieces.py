"""How pieces of forms are made of the pieces in them."""
from widestkind.pieces import Piece, all_pieces


def make_form(items, begin, end, notes):
    groups = tuple([item.part for item in items[:-1]])
    return Piece(("form", groups, items[-1].part), begin, end)


def make_group(items, begin, end, notes):
    return Piece((items[0].part, tuple([item.part for item in items[1:]])), begin, end)


def make_entry(items, begin, end, notes):
    return Piece(tuple([item.part for item in items]), begin, end)


def make_names(items, begin, end, notes):
    notes.unlike(items)
    return Piece(tuple([item.part for item in items]), begin, end)


def make_thing(items, begin, end, notes):
    """A kind or a measure, whose names are told by themselves."""
    notes.end_kind()
    return Piece(items[0].part, begin, end)


def make_row(items, begin, end, notes):
    """The row of a record or of a variant."""
    notes.end_kind()
    _, entries, rest = items[0].part
    return Piece((entries, rest), begin, end)


def make_number(items, begin, end, notes):
    """A number without a written measure has no measure."""
    number = int(items[0].part)
    if len(items) == 1:
        return Piece(("number", number, None, ()), begin, end)
    return Piece(("number", number, items[1].part, items[1].part), begin, end)


def make_zero(items, begin, end, notes):
    """A 0 without a written measure, and the measure that it has."""
    return Piece(("number", 0, None, items[1].part), begin, end)


def make_name(items, begin, end, notes):
    return Piece(("name", items[0].part, None), begin, end)


def make_tabled(items, begin, end, notes):
    """A name with what is put in the place of kind names."""
    names = items[1::2]
    notes.unlike(names)
    table = tuple([(name.part, thing.part) for name, thing in zip(names, items[2::2])])
    return Piece(("name", items[0].part, table), begin, end)


def make_rec(items, begin, end, notes):
    notes.unlike(items[:2])
    return Piece(("rec", *[item.part for item in items]), begin, end)


def make_record(items, begin, end, notes):
    labels = items[::2]
    notes.unlike(labels)
    entries = tuple([(label.part, item.part) for label, item in zip(labels, items[1::2])])
    return Piece(("record", entries), begin, end)


def make_rowed(items, begin, end, notes):
    """A row of a match: a pattern and a form tree."""
    bound = [piece for piece in all_pieces(items[0]) if piece.part[0] == "bind"]
    notes.unlike([Piece(piece.part[1], piece.begin, piece.end) for piece in bound])
    return Piece((items[0].part, items[1].part), begin, end)


def make_match(items, begin, end, notes):
    return Piece(("match", items[0].part, tuple([item.part for item in items[1:]])), begin, end)


MAKERS = {
    "form": make_form,
    "group": make_group,
    "entry": make_entry,
    "names": make_names,
    "kind": make_thing,
    "measure": make_thing,
    "row": make_row,
    "number": make_number,
    "zero": make_zero,
    "name": make_name,
    "tabled": make_tabled,
    "rec": make_rec,
    "record": make_record,
    "rowed": make_rowed,
    "match": make_match,
}


def form_piece(word, items, begin, end, notes):
    """The piece with a name in the grammar of forms, made of the pieces in it."""
    if word not in MAKERS:
        return Piece((word, *[item.part for item in items]), begin, end)
    maker = MAKERS[word]
    return maker(items, begin, end, notes)
