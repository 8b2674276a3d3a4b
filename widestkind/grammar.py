"""The grammar of texts, as rows of symbols for each form and the token at which it goes on.

Forms are written in capitals. The other symbols are:
- `#`: a part begins here; `!fn` and the like: a part of a tree is made; `?num` and the like: one of a kind.
- `#name` and the like: a part that is but the next token, which is of the sort by which the row was chosen.
- `&` and a form: the form, the row of which is chosen by the very token or by the one behind it.
- `word`, `plain`, `number`, `power`, `tag`, `'` and `sign`: a token of this sort, which is kept; `name` likewise: a
  word that is bound or names a variable, in whose place the line of a macro may have `$` and a word.
- anything else: just this token, which is not kept.

A form has one row for each sort of token with which it can begin, and perhaps one for all others, at `""`. What may
stand behind a tree is told by FULL, in a sum by PRODUCTS, in a product by CALLS, and behind `<` by SUMS.
"""
from widestkind.signs import SORTS
from widestkind.words import OWN_WORDS

KEPT = {
    "word": True,
    "plain": True,
    "name": True,
    "number": True,
    "power": True,
    "tag": True,
    "'": True,
    "sign": True,
}

ROWS = {
    ("OWNKIND", ""): ("kind", "#", "plain", "NAMES", "?owner", "=", "CONSTRUCTOR", "CONSTRUCTORS"),
    ("NAMES", "'"): ("'", "NAMES"),
    ("NAMES", ""): (),
    ("CONSTRUCTOR", ""): ("#", "tag", "CONTAINED", "?constructor"),
    ("CONTAINED", "("): ("(", "KIND", ")"),
    ("CONTAINED", ""): (),
    ("CONSTRUCTORS", "|"): ("|", "CONSTRUCTOR", "CONSTRUCTORS"),
    ("CONSTRUCTORS", ""): (),
    ("MACRO", ""): ("macro", "#", "plain", "(", "PARAMETERS", ")", "?owner", "=", "TREE"),
    ("PARAMETERS", ")"): (),
    ("PARAMETERS", ""): ("name", "FURTHER_PARAMETERS"),
    ("FURTHER_PARAMETERS", ","): (",", "name", "FURTHER_PARAMETERS"),
    ("FURTHER_PARAMETERS", ""): (),
    ("DEFINITION", ""): ("def", "#", "plain", "?owner", "=", "TREE"),
    ("TREE", "fn"): ("#", "fn", "name", "->", "TREE", "!fn"),
    ("TREE", "let"): ("#", "let", "name", "=", "TREE", "in", "TREE", "!let"),
    ("TREE", "rec"): ("#", "rec", "name", "name", "=", "TREE", "in", "TREE", "!rec"),
    ("TREE", "word"): ("#name", "FULL"),
    ("TREE", ""): ("SMALL", "FULL"),
    ("FULL", "("): ("(", "TREE", ")", "!call", "FULL"),
    ("FULL", "."): (".", "word", "!field", "FULL"),
    ("FULL", "*"): ("sign", "SMALL", "CALLS", "!op", "FULL"),
    ("FULL", "/"): ("sign", "SMALL", "CALLS", "!op", "FULL"),
    ("FULL", "+"): ("sign", "SMALL", "PRODUCTS", "!op", "FULL"),
    ("FULL", "-"): ("sign", "SMALL", "PRODUCTS", "!op", "FULL"),
    ("FULL", "<"): ("sign", "SMALL", "SUMS", "!op"),
    ("FULL", ")"): (),
    ("FULL", ","): (),
    ("FULL", "}"): (),
    ("FULL", ";"): (),
    ("FULL", "in"): (),
    ("FULL", ""): (),
    ("SUMS", "("): ("(", "TREE", ")", "!call", "SUMS"),
    ("SUMS", "."): (".", "word", "!field", "SUMS"),
    ("SUMS", "*"): ("sign", "SMALL", "CALLS", "!op", "SUMS"),
    ("SUMS", "/"): ("sign", "SMALL", "CALLS", "!op", "SUMS"),
    ("SUMS", "+"): ("sign", "SMALL", "PRODUCTS", "!op", "SUMS"),
    ("SUMS", "-"): ("sign", "SMALL", "PRODUCTS", "!op", "SUMS"),
    ("SUMS", ""): (),
    ("PRODUCTS", "("): ("(", "TREE", ")", "!call", "PRODUCTS"),
    ("PRODUCTS", "."): (".", "word", "!field", "PRODUCTS"),
    ("PRODUCTS", "*"): ("sign", "SMALL", "CALLS", "!op", "PRODUCTS"),
    ("PRODUCTS", "/"): ("sign", "SMALL", "CALLS", "!op", "PRODUCTS"),
    ("PRODUCTS", ""): (),
    ("CALLS", "("): ("(", "TREE", ")", "!call", "CALLS"),
    ("CALLS", "."): (".", "word", "!field", "CALLS"),
    ("CALLS", ""): (),
    ("SMALL", "word"): ("#name",),
    ("SMALL", "$"): ("#name",),
    ("SMALL", "number"): ("#", "number", "UNIT", "!number"),
    ("UNIT", "["): ("[", "MEASURE", "]"),
    ("UNIT", ""): (),
    ("SMALL", "("): ("#", "(", "TREE", "INNER"),
    ("INNER", ":"): (":", "KIND", ")", "!told"),
    ("INNER", ""): (")", "!inner"),
    ("SMALL", "{"): ("#", "{", "FIELDS"),
    ("FIELDS", "}"): ("}", "!record"),
    ("FIELDS", "word"): ("&FIELDS",),
    ("FIELDS", "label"): ("ENTRY", "ENTRIES", "}", "!record"),
    ("FIELDS", ""): ("TREE", "with", "word", "=", "TREE", "}", "!with"),
    ("ENTRY", ""): ("word", "=", "TREE"),
    ("ENTRIES", ","): (",", "ENTRY", "ENTRIES"),
    ("ENTRIES", ""): (),
    ("SMALL", "tag"): ("#", "tag", "CONTENT", "!tag"),
    ("CONTENT", "("): ("(", "TREE", ")"),
    ("CONTENT", ""): (),
    ("SMALL", "match"): ("#", "match", "TREE", "{", "ROW", "OTHERS", "}", "!match"),
    ("ROW", ""): ("#", "PATTERN", "->", "TREE", "!row"),
    ("OTHERS", ";"): (";", "ROW", "OTHERS"),
    ("OTHERS", ""): (),
    ("SMALL", "fail"): ("#", "fail", "word", "!fail"),
    ("SMALL", "@"): ("#", "@", "plain", "(", "GIVEN", ")", "!macro"),
    ("GIVEN", ")"): (),
    ("GIVEN", ""): ("TREE", "FURTHER"),
    ("FURTHER", ","): (",", "TREE", "FURTHER"),
    ("FURTHER", ""): (),
    ("PATTERN", "_"): ("#any",),
    ("PATTERN", "word"): ("#bind",),
    ("PATTERN", "$"): ("#bind",),
    ("PATTERN", "tag"): ("#", "tag", "HELD", "!tag"),
    ("HELD", "("): ("(", "PATTERN", ")"),
    ("HELD", ""): (),
    ("PATTERN", "{"): ("#", "{", "SLOTS"),
    ("SLOTS", "}"): ("}", "!record"),
    ("SLOTS", ""): ("SLOT", "FURTHER_SLOTS", "}", "!record"),
    ("SLOT", ""): ("word", "=", "PATTERN"),
    ("FURTHER_SLOTS", ","): (",", "SLOT", "FURTHER_SLOTS"),
    ("FURTHER_SLOTS", ""): (),
    ("MEASURE", ""): ("#", "word", "POWER", "FACTORS", "?measure"),
    ("FACTORS", "word"): ("word", "POWER", "FACTORS"),
    ("FACTORS", ""): (),
    ("POWER", "^"): ("^", "SIGNED"),
    ("POWER", ""): (),
    ("SIGNED", "-"): ("sign", "power"),
    ("SIGNED", ""): ("power",),
    ("KIND", ""): ("KINDS", "ARROW"),
    ("ARROW", "->"): ("->", "KIND", "?fn"),
    ("ARROW", ""): (),
    ("KINDS", "num"): ("#", "num", "SCALED", "?num"),
    ("SCALED", "["): ("[", "SCALE", "]"),
    ("SCALED", ""): (),
    ("SCALE", "word"): ("#", "word", "POWER", "SCALES", "?measure"),
    ("SCALE", "'"): ("#", "'", "POWER", "SCALES", "?measure"),
    ("SCALES", "word"): ("word", "POWER", "SCALES"),
    ("SCALES", "'"): ("'", "POWER", "SCALES"),
    ("SCALES", ""): (),
    ("KINDS", "'"): ("#", "'", "?name"),
    ("KINDS", "word"): ("#", "plain", "OWNED", "?own"),
    ("OWNED", "("): ("(", "KIND", "SECOND", ")"),
    ("OWNED", ""): (),
    ("SECOND", ","): (",", "KIND", "THIRD"),
    ("SECOND", ""): (),
    ("THIRD", ","): (",", "KIND"),
    ("THIRD", ""): (),
    ("KINDS", "("): ("(", "KIND", ")"),
    ("KINDS", "{"): ("#", "{", "LABELS"),
    ("LABELS", "}"): ("}", "?record"),
    ("LABELS", "|"): ("|", "'", "}", "?record"),
    ("LABELS", ""): ("word", ":", "KIND", "FURTHER_LABELS", "REST", "}", "?record"),
    ("FURTHER_LABELS", ","): (",", "word", ":", "KIND", "FURTHER_LABELS"),
    ("FURTHER_LABELS", ""): (),
    ("REST", "|"): ("|", "'"),
    ("REST", ""): (),
    ("KINDS", "<"): ("#", "<", "TAGS"),
    ("TAGS", ">"): (">", "?variant"),
    ("TAGS", "|"): ("|", "'", ">", "?variant"),
    ("TAGS", ""): ("tag", ":", "KIND", "FURTHER_TAGS", "REST", ">", "?variant"),
    ("FURTHER_TAGS", ","): (",", "tag", ":", "KIND", "FURTHER_TAGS"),
    ("FURTHER_TAGS", ""): (),
}


def sort_of(token):
    """The sort of a token, by which a row is chosen: `word`, `number`, `tag`, `'`, `$`, or the token itself."""
    return token if token in OWN_WORDS else SORTS.get(token[:1], token)


def default_row(form):
    """The row with which a form goes on at all tokens that have none of their own, or None."""
    return ROWS.get((form, ""))


def takes(symbol, token, template):
    """Whether a symbol that is no form takes a token, in the template of a macro or elsewhere."""
    sort = sort_of(token)
    if symbol == "head":
        return True
    if symbol == "name":
        return sort == "word" or template and sort == "$"
    if symbol == "plain":
        return sort == "word" and "a" <= token[-1] <= "z"
    if symbol == "power":
        return sort == "number" and token != "0"
    if symbol in KEPT:
        return symbol == sort or symbol == "sign" and sort in ("+", "-", "*", "/", "<")
    return symbol == token
