"""Reads texts by the rows of the grammar, with a list of what is still to come in the place of deep recursion."""
from widestkind.errors import BadName, BadText, Twice
from widestkind.formgrammar import form_row_of
from widestkind.formpieces import form_piece
from widestkind.grammar import KEPT, ROWS, default_row, takes
from widestkind.kindpieces import KIND_MAKERS
from widestkind.pieces import Notes, Piece
from widestkind.signs import cut
from widestkind.treepieces import TREE_MAKERS

# How many pieces are taken for a part that is known to go on only behind its first pieces.
TAKEN = {"!op": 3, "!call": 2, "!field": 2, "?fn": 2, "~kind": 1, "~measure": 1, "~row": 1}

# The forms of lines.
LINES = {"kind": "OWNKIND", "macro": "MACRO", "def": "DEFINITION"}


class Reader:
    """Goes through the tokens of a text, or of the line of a macro, and keeps the pieces that are made of them."""

    def __init__(self, text):
        self.template = False
        self.tokens, self.sorts, wrong = cut(text)
        last = ("", len(text)) if wrong is None else ("?", wrong)
        self.tokens.append(last)
        self.sorts.append(last[0])
        self.at = 0
        self.pieces = []
        self.marks = []
        self.notes = Notes()

    def take_in(self, form):
        """Reads a form, and goes behind it."""
        tokens, sorts, pieces = self.tokens, self.sorts, self.pieces
        at = 0
        end = 0
        waiting = [form]
        while waiting:
            symbol = waiting.pop()
            if symbol.isupper():
                row = ROWS.get((symbol, sorts[at]))
                if row is None:
                    row = self._row(symbol, at)
                waiting.extend(row[::-1])
                continue
            token, begin = tokens[at]
            if symbol in KEPT:
                if symbol != sorts[at] and not takes(symbol, token, self.template):
                    raise BadText(begin)
                at += 1
                end = begin + len(token)
                pieces.append(Piece(token, begin, end))
            elif symbol == token:
                at += 1
                end = begin + len(token)
            elif symbol == "#":
                self.marks.append((len(pieces), begin))
            elif symbol[0] in "!?~":
                self._make(symbol, end)
            else:
                if symbol[0] == "#":
                    self._leaf(symbol, token, begin)
                elif not takes(symbol, token, self.template):
                    raise BadText(begin)
                at += 1
                end = begin + len(token)
        self.at = at

    def _row(self, form, at):
        """The row with which a form goes on at the token with an index, if it has none of its own for its sort."""
        if form[0] == "&":
            row = self._row_by_token(form[1:], at)
        else:
            row = default_row(form)
            if row is None:
                row = form_row_of(form, self.sorts[at])
        if row is None:
            raise BadText(self.tokens[at][1])
        return row

    def _row_by_token(self, form, at):
        """The row of a form that is chosen by the very token, or, in brackets, by the one behind it."""
        if form == "FIELDS":
            return ROWS[(form, "label" if self.tokens[at + 1][0] == "=" else "")]
        token = self.tokens[at][0]
        return form_row_of(form, token if form != "COUNT" or token == "0" else self.sorts[at])

    def _leaf(self, symbol, token, begin):
        """Puts the piece of a part that is but a token."""
        if token[0] == "$" and not self.template:
            raise BadText(begin)
        part = ("any",) if symbol == "#any" else (symbol[1:], token)
        self.pieces.append(Piece(part, begin, begin + len(token)))

    def _make(self, symbol, end):
        """Puts a new piece in the place of those in it."""
        pieces = self.pieces
        if symbol in TAKEN:
            first = len(pieces) - TAKEN[symbol]
            begin = pieces[first].start
        else:
            first, begin = self.marks.pop()
        items = pieces[first:]
        del pieces[first:]
        if symbol[0] == "~":
            pieces.append(form_piece(symbol[1:], items, begin, end, self.notes))
            return
        if symbol[0] == "!":
            make = TREE_MAKERS[symbol]
        else:
            make = KIND_MAKERS[symbol]
        pieces.append(make(items, begin, end, self.notes))

    def finish(self):
        """Raises what is wrong with the words and names of the text."""
        double = self.notes.first_double()
        if double is not None:
            raise Twice(double)
        if self.notes.strays:
            raise BadName(self.notes.strays[0])


def read_through(reader, form):
    """The Reader, behind a form that is its whole text."""
    reader.take_in(form)
    token, begin = reader.tokens[reader.at]
    if token != "":
        raise BadText(begin)
    return reader


def parsed(text, form):
    """The Reader that has read a text of a form."""
    if not isinstance(text, str):
        raise BadText(0)
    return read_through(Reader(text), form)


def parsed_line(text):
    """The tuple of the sort of the line of a book and of the Reader that has read it."""
    reader = Reader(text)
    sort = reader.tokens[0][0]
    if sort not in LINES:
        raise BadText(0)
    reader.template = sort == "macro"
    return sort, read_through(reader, LINES[sort])


def read_tree_piece(text):
    """The piece of the tree of a text, whose words and names are right."""
    reader = parsed(text, "TREE")
    reader.finish()
    return reader.pieces[0]


def read_form_piece(text):
    """The piece of the form of a text, whose words and names are right."""
    reader = parsed(text, "FORM")
    reader.finish()
    return reader.pieces[0]


def read_kind_piece(text):
    """The piece of the kind of a text, whose words and names are right."""
    reader = parsed(text, "KIND")
    reader.notes.end_kind()
    reader.finish()
    return reader.pieces[0]
