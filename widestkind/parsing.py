"""Reads texts by the rows of the grammar, with a list of what is still to come in the place of deep recursion."""
from widestkind.errors import BadName, BadText, Twice
from widestkind.formgrammar import form_row_of
from widestkind.formpieces import form_piece
from widestkind.grammar import KEPT, ROWS, default_row, sort_of, takes
from widestkind.kindpieces import kind_piece
from widestkind.pieces import Notes, Piece
from widestkind.signs import cut
from widestkind.treepieces import tree_piece

# How many pieces are taken for a part that is known to go on only behind its first pieces.
TAKEN = {"!op": 3, "!call": 2, "!field": 2, "?fn": 2, "~kind": 1, "~measure": 1, "~row": 1}

# The forms of lines.
LINES = {"kind": "OWNKIND", "macro": "MACRO", "def": "DEFINITION"}


class Reader:
    """Goes through the tokens of a text, or of the line of a macro, and keeps the pieces that are made of them."""

    def __init__(self, text):
        self.template = False
        self.tokens, wrong = cut(text)
        if wrong is None:
            self.tokens.append(("", len(text)))
        else:
            self.tokens.append(("?", wrong))
        self.sorts = [sort_of(token) for token, _ in self.tokens]
        self.at = 0
        self.pieces = []
        self.marks = []
        self.notes = Notes()

    def take_in(self, form):
        """Reads a form, and goes behind it."""
        at = 0
        end = 0
        waiting = [form]
        while waiting:
            symbol = waiting.pop()
            token, begin = self.tokens[at]
            if symbol.isupper():
                row = self._row(symbol, at)
                waiting.extend(row[::-1])
            elif symbol == token and symbol not in KEPT:
                at += 1
                end = begin + len(token)
            elif symbol == "#":
                self.marks.append((len(self.pieces), begin))
            elif symbol[0] in ("!", "?", "~"):
                self._make(symbol, end)
            else:
                if symbol[0] == "#":
                    symbol = self._leaf(symbol, token, begin)
                elif not takes(symbol, token, self.template):
                    raise BadText(begin)
                at += 1
                end = begin + len(token)
                if symbol in KEPT:
                    self.pieces.append(Piece(token, begin, end))
        self.at = at

    def _row(self, form, at):
        """The row with which a form goes on at the token with an index."""
        if form[0] == "&":
            row = self._row_by_token(form[1:], at)
        else:
            row = ROWS.get((form, self.sorts[at]))
            if row is None:
                row = default_row(form)
            if row is None:
                row = form_row_of(form, self.sorts[at])
        if row is None:
            raise BadText(self.tokens[at][1])
        return row

    def _row_by_token(self, form, at):
        """The row of a form that is chosen by the very token, or, in brackets, by the one behind it."""
        if form == "FIELDS":
            return ROWS[(form, "label" if self.tokens[at + 1][0] == "=" else "")]
        token = self.tokens[at][0]
        return form_row_of(form, token if form != "COUNT" or token == "0" else self.sorts[at])

    def _leaf(self, symbol, token, begin):
        """Puts the piece of a part that is but a token; returns the symbol."""
        if token[0] == "$" and not self.template:
            raise BadText(begin)
        part = ("any",) if symbol == "#any" else (symbol[1:], token)
        self.pieces.append(Piece(part, begin, begin + len(token)))
        return symbol

    def _make(self, symbol, end):
        """Puts a new piece in the place of those in it."""
        if symbol in TAKEN:
            first = len(self.pieces) - TAKEN[symbol]
            begin = self.pieces[first].start
        else:
            first, begin = self.marks.pop()
        items = self.pieces[first:]
        del self.pieces[first:]
        make = kind_piece
        if symbol[0] != "?":
            make = tree_piece if symbol[0] == "!" else form_piece
        self.pieces.append(make(symbol[1:], items, begin, end, self.notes))

    def finish(self):
        """Raises what is wrong with the words and names of the text."""
        double = self.notes.first_double()
        if double is not None:
            raise Twice(double)
        if self.notes.strays:
            raise BadName(self.notes.strays[0])


def read_through(reader, form):
    """The Reader, behind a form that is its whole text."""
    reader.take_in(form)
    token, begin = reader.tokens[reader.at]
    if token != "":
        raise BadText(begin)
    return reader


def parsed(text, form):
    """The Reader that has read a text of a form."""
    if not isinstance(text, str):
        raise BadText(0)
    return read_through(Reader(text), form)


def parsed_line(text):
    """The tuple of the sort of the line of a book and of the Reader that has read it."""
    reader = Reader(text)
    sort = reader.tokens[0][0]
    if sort not in LINES:
        raise BadText(0)
    reader.template = sort == "macro"
    return sort, read_through(reader, LINES[sort])


def read_tree_piece(text):
    """The piece of the tree of a text, whose words and names are right."""
    reader = parsed(text, "TREE")
    reader.finish()
    return reader.pieces[0]


def read_form_piece(text):
    """The piece of the form of a text, whose words and names are right."""
    reader = parsed(text, "FORM")
    reader.finish()
    return reader.pieces[0]


def read_kind_piece(text):
    """The piece of the kind of a text, whose words and names are right."""
    reader = parsed(text, "KIND")
    reader.notes.end_kind()
    reader.finish()
    return reader.pieces[0]
