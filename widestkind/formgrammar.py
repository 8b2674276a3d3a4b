"""The grammar of the texts of forms, in rows like those of the grammar of texts, whose forms stand in them too.

Further symbols are `~fn` and the like: a part of a form is made; and `head`: any token, which is not kept, as it is
the one by which the row was chosen. The rows of FIRST and BODY are chosen by the very token.
"""

FORM_ROWS = {
    ("FORM", ""): ("#", "#", "(", "&FIRST", "~form"),
    ("FIRST", "group"): ("head", "BOUNDS", "ENTRIED", "ENTRIEDS", ")", "~group", "#", "(", "&FIRST"),
    ("FIRST", ""): ("&BODY",),
    ("ENTRIED", ""): ("#", "(", "def", "plain", ":", "KIND", "~kind", "=", "FORMTREE", ")", "~entry"),
    ("ENTRIEDS", "("): ("ENTRIED", "ENTRIEDS"),
    ("ENTRIEDS", ""): (),
    ("BOUNDS", ""): ("#", "[", "BOUND", "]", "~names"),
    ("BOUND", "'"): ("'", "BOUND"),
    ("BOUND", ""): (),
    ("FORMTREE", ""): ("#", "(", "&BODY"),
    ("BODY", "number"): ("head", "&COUNT"),
    ("COUNT", "0"): ("number", "ZERO"),
    ("COUNT", "number"): ("number", "UNIT", ")", "~number"),
    ("ZERO", "["): ("UNIT", ")", "~number"),
    ("ZERO", ":"): (":", "ANYSCALE", ")", "~zero"),
    ("ANYSCALE", ""): ("[", "SCALED_OR_NOT"),
    ("SCALED_OR_NOT", "]"): ("#", "?measure", "~measure", "]"),
    ("SCALED_OR_NOT", ""): ("SCALE", "~measure", "]"),
    ("BODY", "name"): ("head", "word", "TABLE"),
    ("TABLE", "["): ("[", "ITEMS", "]", ")", "~tabled"),
    ("TABLE", ""): (")", "~name"),
    ("ITEMS", "'"): ("ITEM", "FURTHER_ITEMS"),
    ("ITEMS", ""): (),
    ("FURTHER_ITEMS", ";"): (";", "ITEM", "FURTHER_ITEMS"),
    ("FURTHER_ITEMS", ""): (),
    ("ITEM", ""): ("'", "=", "THING"),
    ("THING", "["): ("ANYSCALE",),
    ("THING", "|"): ("|", "HOLDER", "~row"),
    ("THING", ""): ("KIND", "~kind"),
    ("HOLDER", "("): ("(", "HOLDER", ")"),
    ("HOLDER", "{"): ("#", "{", "LABELS"),
    ("HOLDER", "<"): ("#", "<", "TAGS"),
    ("BODY", "fail"): ("head", "word", ":", "KIND", "~kind", ")", "~fail"),
    ("BODY", "fn"): ("head", "word", ":", "KIND", "~kind", "=", "FORMTREE", ")", "~fn"),
    ("BODY", "call"): ("head", "FORMTREE", "FORMTREE", ")", "~call"),
    ("BODY", "let"): ("head", "word", "BOUNDS", "=", "FORMTREE", "in", "FORMTREE", ")", "~let"),
    ("BODY", "rec"): (
        "head", "word", "word", "BOUNDS", ":", "KIND", "~kind", "=", "FORMTREE", "in", "FORMTREE", ")", "~rec",
    ),
    ("BODY", "record"): ("head", "FORMENTRIES", ")", "~record"),
    ("FORMENTRIES", "word"): ("FORMENTRY", "FURTHER_FORMENTRIES"),
    ("FORMENTRIES", ""): (),
    ("FORMENTRY", ""): ("word", "=", "FORMTREE"),
    ("FURTHER_FORMENTRIES", ","): (",", "FORMENTRY", "FURTHER_FORMENTRIES"),
    ("FURTHER_FORMENTRIES", ""): (),
    ("BODY", "with"): ("head", "FORMTREE", "word", "=", "FORMTREE", ")", "~with"),
    ("BODY", "field"): ("head", "FORMTREE", "word", ")", "~field"),
    ("BODY", "tag"): ("head", "tag", "FORMTREE", ":", "KIND", "~kind", ")", "~tag"),
    ("BODY", "match"): ("head", "FORMTREE", "FORMROW", "FURTHER_FORMROWS", ")", "~match"),
    ("FORMROW", ""): ("#", "PATTERN", "->", "FORMTREE", "~rowed"),
    ("FURTHER_FORMROWS", ";"): (";", "FORMROW", "FURTHER_FORMROWS"),
    ("FURTHER_FORMROWS", ""): (),
    ("BODY", "op"): ("head", "sign", "FORMTREE", "FORMTREE", ")", "~op"),
    ("BODY", "told"): ("head", "FORMTREE", ":", "KIND", "~kind", ")", "~told"),
}


def form_row_of(form, sort):
    """The row with which a form goes on at a token, or at a token of a sort, or None."""
    if (form, sort) in FORM_ROWS:
        return FORM_ROWS[(form, sort)]
    return FORM_ROWS.get((form, ""))
