"""What holds of all texts, tried with drawn ones; and that answers do not hang on what was asked before."""
import itertools
import os
import sys
import unittest

from widestkind.books import Book
from widestkind.errors import BadText, KindError
from widestkind.facts import facts
from widestkind.forms import is_form_of, judge
from widestkind.formtexts import form_text, read_form
from widestkind.kinds import closed, kind_text
from widestkind.names import alike, binders, free, plain_names
from widestkind.papers import clash, judge_clash
from widestkind.reading import read, spans, tokens
from widestkind.shapes import parts_of
from widestkind.solving import fits, judge_solution, solution
from widestkind.trees import show
from widestkind.wholes import Whole
from widestkind.widest import can_have, explicit, form_with, widest

sys.path.insert(0, os.path.dirname(os.path.abspath(__file__)))
from plain_runs import BOOK, Draws, drawn_wholes  # noqa: E402


def told(ask, *given):
    """What is answered, or the exception with its fields."""
    try:
        return ask(*given)
    except KindError as wrong:
        return type(wrong), list(vars(wrong).values())


def plain_binders(tree):
    """What `binders` tells, found by going down from each part with what is bound there."""
    found = []

    def go(part, scope):
        number = len(found)
        found.append(None)
        if isinstance(part[0], tuple):
            inner = dict(scope)
            first = len(found)
            go(part[0], {})
            for offset, one in enumerate(parts_of(part[0])):
                if one[0] == "bind":
                    inner[one[1]] = first + offset
            go(part[1], inner)
        elif part[0] == "name":
            found[number] = scope.get(part[1])
        elif part[0] == "fn":
            go(part[2], {**scope, part[1]: number})
        elif part[0] == "let":
            go(part[2], scope)
            go(part[3], {**scope, part[1]: number})
        elif part[0] == "rec":
            go(part[3], {**scope, part[1]: number, part[2]: number})
            go(part[4], {**scope, part[1]: number})
        elif part[0] == "record":
            for _, one in part[1]:
                go(one, scope)
        elif part[0] == "match":
            go(part[1], scope)
            for row in part[2]:
                go(row, scope)
        elif part[0] == "macro":
            for one in part[2]:
                go(one, scope)
        elif part[0] not in ("any", "bind", "number", "fail"):
            for one in part[1:]:
                if isinstance(one, tuple) and part[0] != "told" or one is part[1] and part[0] in ("told", "field", "with"):
                    go(one, scope)

    go(tree, {})
    return found


class Trees(unittest.TestCase):
    def setUp(self):
        draws = Draws(41)
        self.trees = [draws.tree(draws.by.choice([2, 3, 4]), draws.names()) for _ in range(300)]

    def test_what_is_shown_is_read(self):
        for tree in self.trees:
            text = show(tree)
            self.assertEqual(read(text), tree)
            loose = " ".join(token for token, _ in tokens(text))
            self.assertEqual(read(loose), tree)
            parts = parts_of(tree)
            for part, (begin, end) in zip(parts, spans(text)):
                if not isinstance(part[0], tuple) and part[0] not in ("any", "bind") and (begin, end) != spans(text)[0]:
                    self.assertTrue(text[begin:end].strip())

    def test_names(self):
        for tree in self.trees:
            self.assertEqual(binders(tree), plain_binders(tree))
            other = plain_names(tree)
            self.assertEqual(binders(other), binders(tree))
            self.assertTrue(alike(tree, other))
            self.assertEqual(free(other), free(tree))
            self.assertEqual(plain_names(other), other)

    def test_wrong_tokens_are_told_where_they_begin(self):
        draws = Draws(42)
        signs = ["fn", "let", "in", "rec", "match", "with", "fail", "num", "x", "T", "1", "'a", "(", ")", "{", "}", "[", "]", "<", ">", "=", ",",
                 ";", ":", ".", "|", "+", "-", "*", "/", "@", "^", "_", "->", "$x", "#"]
        wrong = 0
        for tree in self.trees:
            found = [token for token, _ in tokens(show(tree))]
            at = draws.by.randrange(len(found) + 1)
            text = " ".join(found[:at] + [draws.by.choice(signs)] + found[at + draws.by.randrange(2):])
            try:
                read(text)
            except BadText as bad:
                wrong += 1
                begins = [index for index in range(len(text)) if text[index] != " " and (index == 0 or text[index - 1] == " ")]
                self.assertIn(bad.at, [*begins, len(text)])
                if bad.at < len(text):
                    ahead = told(read, text[:bad.at])
                    self.assertTrue(ahead[0] != BadText or ahead[1] == [bad.at], (text, bad.at, ahead))
            except KindError:
                continue
        self.assertGreater(wrong, 150)

    def test_books_are_read_again(self):
        for tree in self.trees[:120]:
            line = "macro m(x, $y) = " + show(tree).replace("z", "$y")
            book = told(Book, BOOK + "\n" + line)
            if isinstance(book, Book):
                self.assertEqual(str(Book(str(book))), str(book))


class Answers(unittest.TestCase):
    def test_they_do_not_hang_on_what_was_asked_before(self):
        book = Book(BOOK)
        asks = [solution, explicit, fits, clash, lambda whole: form_with(whole, ("num", ())), lambda whole: [facts(whole, 0), widest(whole)]]
        for whole in drawn_wholes(43, 25, lambda text: Whole(book, text)):
            alone = [told(ask, Whole(book, whole.text)) for ask in asks]
            for order in list(itertools.permutations(range(len(asks))))[::97]:
                other = Whole(book, whole.text)
                for index in order:
                    self.assertEqual(told(asks[index], other), alone[index], whole.text)
            again = [told(ask, whole) for ask in asks]
            for value in again:
                if isinstance(value, dict):
                    value.clear()
                if isinstance(value, tuple) and isinstance(value[0], list):
                    value[0].append("spoiled")
            self.assertEqual([told(ask, whole) for ask in asks], alone)

    def test_kinds_and_forms(self):
        book = Book(BOOK)
        fitted = 0
        for whole in drawn_wholes(44, 150, lambda text: Whole(book, text)):
            if not fits(whole):
                self.assertTrue(judge_clash(whole, clash(whole)))
                continue
            fitted += 1
            self.assertTrue(judge_solution(whole, solution(whole)))
            form = explicit(whole)
            self.assertTrue(is_form_of(whole, form))
            self.assertEqual(read_form(form_text(form)), form)
            for kind in [widest(whole), closed(widest(whole)), ("name", "'m1"), ("num", (("'m1", 2),))]:
                other = form_with(whole, kind)
                self.assertEqual(other is not None, can_have(whole, kind), (whole.text, kind_text(kind)))
                if other is not None:
                    self.assertEqual(judge(book, other), kind)
                    self.assertTrue(is_form_of(whole, other))
        self.assertGreater(fitted, 50)


if __name__ == "__main__":
    unittest.main()
