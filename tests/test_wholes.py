import unittest

from widestkind.books import Book
from widestkind.errors import BadMacro, BadName, BadPlace, BadText, Twice, Unknown
from widestkind.ratios import Ratio
from widestkind.reading import read
from widestkind.trees import parts
from widestkind.wholes import Whole


def shape(whole):
    """The tuples of a place, its copy and the first word of the part."""
    return [(place, copy, part[0] if isinstance(part[0], str) else "row") for place, copy, part in whole.knots()]


class Raising(unittest.TestCase):
    def assert_raises(self, error, lines, text):
        with self.assertRaises(type(error)) as caught:
            Whole(Book(lines), text)
        self.assertEqual(vars(caught.exception), vars(error))

    def test_texts(self):
        self.assert_raises(BadText(0), "", 3)
        self.assert_raises(BadText(2), "", "f(")
        self.assert_raises(Twice("a"), "", "{a = x, a = 1}")
        self.assert_raises(BadName("'a"), "", "(x : num['a] -> 'a)")
        self.assert_raises(BadText(4), "", "@m( ;")

    def test_macros(self):
        lines = "macro m(a) = a\ndef b = @gone()\ndef c = @m()\ndef d = b\ndef e = @lost()"
        self.assert_raises(BadMacro("none"), lines, "@none(c)")
        self.assert_raises(BadMacro("m"), lines, "c")
        self.assert_raises(BadMacro("gone"), lines, "c(d)")
        self.assert_raises(BadMacro("gone"), lines, "{a = other, b = d}")
        self.assertEqual(len(Whole(Book(lines), "1").knots()), 1)

    def test_names_that_stand_for_nothing(self):
        lines = ("kind t 'a = A('a)\ndef d = z\ndef b = fn x -> {a = x, b = u, c = d}\ndef c = (1 : t(t))\ndef e = (1 : t)\n"
                 "macro k(q) = 1\nmacro v() = w\ndef h = h")
        self.assert_raises(Unknown("x"), lines, "{a = fn y -> y, b = x, c = d}")
        self.assert_raises(Unknown("u"), lines, "{a = b, b = d}")
        self.assert_raises(Unknown("z"), lines, "d")
        self.assert_raises(Unknown("t"), lines, "c")
        self.assert_raises(Unknown("t"), lines, "e")
        self.assert_raises(Unknown("y"), lines, "{a = (x : num), b = y}".replace("x", "h"))
        self.assert_raises(Unknown("s"), lines, "(y : {a : s, b : t(num)})")
        self.assert_raises(Unknown("t"), lines, "(x : t(num, num))")
        self.assert_raises(Unknown("w"), lines, "@v()")
        self.assert_raises(Unknown("x1"), lines, "x1")
        self.assertEqual(len(Whole(Book(lines), "@k(zz)").knots()), 1)
        self.assertEqual(len(Whole(Book(lines), "(h : t(num))").knots()), 3)


class Knots(unittest.TestCase):
    def test_example(self):
        whole = Whole(Book(), "let f = fn x -> x in f(f)(3)")
        self.assertEqual([len(whole.knots()), whole.knots()[8], whole.places()[:3], whole.where(("", 1))],
                         [12, (("", 1), 5, ("fn", "x", ("name", "x"))), [("", 0), ("", 1), ("", 2)], "fn x -> x"])

    def test_what_a_whole_has(self):
        book = Book("def one = 1")
        whole = Whole(text=" one+ 1", book=book)
        self.assertEqual([whole.book, whole.text, whole.tree()], [book, " one+ 1", read("one + 1")])
        for _ in range(2):
            self.assertEqual(whole.places(), [("", 0), ("", 1), ("", 2), ("one", 0)])
            self.assertEqual(len(whole.knots()), 4)
            whole.places().append(1)
            whole.knots().clear()

    def test_parts_of_the_text(self):
        whole = Whole(Book(), "fn t -> match t {A(y) -> {t with a = y}; {a = _} -> (fail w : 'a)}")
        self.assertEqual([part for _, _, part in whole.knots()], parts(whole.tree()))
        self.assertEqual([place for place, _, _ in whole.knots()], [("", number) for number in range(14)])
        self.assertTrue(all(copy is None for _, copy, _ in whole.knots()))

    def test_lets_within_lets(self):
        whole = Whole(Book(), "let f = let g = 1 in g in f(f)")
        found = [("let", None), ("let", None), ("number", None), ("name", None), ("call", None), ("name", None), ("name", None),
                 ("number", 3), ("let", 5), ("number", 5), ("name", 5), ("let", 6), ("number", 6), ("name", 6),
                 ("number", 10), ("number", 13)]
        self.assertEqual([(head, copy) for _, copy, head in shape(whole)], found)
        self.assertEqual([place[1] for place, _, _ in shape(whole)], [0, 1, 2, 3, 4, 5, 6, 2, 1, 2, 3, 1, 2, 3, 2, 2])

    def test_recs(self):
        whole = Whole(Book(), "rec f x = f(x) in f(f)")
        self.assertEqual(shape(whole), [
            (("", 0), None, "rec"), (("", 1), None, "call"), (("", 2), None, "name"), (("", 3), None, "name"),
            (("", 4), None, "call"), (("", 5), None, "name"), (("", 6), None, "name"),
            (("", 0), 5, "rec"), (("", 1), 5, "call"), (("", 2), 5, "name"), (("", 3), 5, "name"),
            (("", 0), 6, "rec"), (("", 1), 6, "call"), (("", 2), 6, "name"), (("", 3), 6, "name")])

    def test_binders_around_a_let(self):
        whole = Whole(Book(), "fn y -> let f = fn x -> y in f")
        self.assertEqual([head for _, _, head in shape(whole)], ["fn", "let", "fn", "name", "name", "fn", "name"])

    def test_groups(self):
        book = Book("def odd = fn x -> even(x)\ndef even = fn x -> let o = odd in o(x)\ndef two = even")
        whole = Whole(book, "two(odd)")
        self.assertEqual(shape(whole), [
            (("", 0), None, "call"), (("", 1), None, "name"), (("", 2), None, "name"), (("two", 0), 1, "name"),
            (("even", 0), 2, "fn"), (("even", 1), 2, "let"), (("even", 2), 2, "name"), (("even", 3), 2, "call"),
            (("even", 4), 2, "name"), (("even", 5), 2, "name"),
            (("odd", 0), 2, "fn"), (("odd", 1), 2, "call"), (("odd", 2), 2, "name"), (("odd", 3), 2, "name"),
            (("even", 0), 3, "fn"), (("even", 1), 3, "let"), (("even", 2), 3, "name"), (("even", 3), 3, "call"),
            (("even", 4), 3, "name"), (("even", 5), 3, "name"),
            (("odd", 0), 3, "fn"), (("odd", 1), 3, "call"), (("odd", 2), 3, "name"), (("odd", 3), 3, "name"),
            (("even", 2), 8, "name"), (("even", 2), 18, "name")])

    def test_definitions_of_their_own(self):
        whole = Whole(Book("def a = fn x -> a(b)\ndef b = {}"), "fn a -> b")
        self.assertEqual(shape(whole), [(("", 0), None, "fn"), (("", 1), None, "name"), (("b", 0), 1, "record")])
        whole = Whole(Book("def a = fn x -> a(b)\ndef b = {}"), "a")
        self.assertEqual([copy for _, copy, _ in whole.knots()], [None, 0, 0, 0, 0, 4])

    def test_macros(self):
        whole = Whole(Book("macro both(e) = {a = e, b = e, c = 1}"), "@both({})")
        self.assertEqual(shape(whole), [(("@both", 0), None, "record"), (("", 1), None, "record"), (("", 1), None, "record"),
                                        (("@both", 3), None, "number")])
        self.assertEqual(whole.places(), [("", 1), ("@both", 0), ("@both", 3)])


class Where(unittest.TestCase):
    def test_texts(self):
        book = Book("macro id(a) = a\nmacro both(e, $x) = fn $x -> {a = e, b = match $x {A($x) -> $x; T -> @id(2)}}"
                    "\ndef d = fn x -> @id(x + 1)")
        whole = Whole(book, "match d ( 2 ){ {a=A(y)}->@both(@id(y),z);_->fail w}")
        expected = {("", 0): "match d(2) {{a = A(y)} -> @both(@id(y), z); _ -> fail w}", ("", 4): "{a = A(y)} -> @both(@id(y), z)",
                    ("", 5): "{a = A(y)}", ("", 6): "A(y)", ("", 7): "y", ("", 10): "y", ("", 12): "_ -> fail w", ("", 13): "_",
                    ("", 14): "fail w", ("@both", 0): "fn $x -> {a = e, b = match $x {A($x) -> $x; T -> @id(2)}}",
                    ("@both", 3): "match $x {A($x) -> $x; T -> @id(2)}", ("@both", 4): "$x", ("@both", 5): "A($x) -> $x",
                    ("@both", 6): "A($x)", ("@both", 9): "T -> @id(2)", ("@both", 13): "2", ("d", 0): "fn x -> @id(x + 1)",
                    ("d", 2): "x + 1", ("d", 3): "x"}
        for place, text in expected.items():
            self.assertEqual(whole.where(place), text)
        for place in whole.places():
            self.assertIsInstance(whole.where(place=place), str)
        self.assertNotIn(("", 8), whole.places())

    def test_values_that_are_no_places(self):
        whole = Whole(Book("macro id(a) = a\ndef d = 1"), "@id(2)(3)")
        for value in [None, 0, "", ("", 1), ("", 4), ("d", 0), ("", True), ("", False), ["", 0], ("", 0, 0), ("",), (),
                      (0, ""), ("", -1), ("@id", 0), ([], 0), ("", [0]), ({}, {}), Ratio(1), ("", Ratio(0)), ("", None)]:
            with self.assertRaises(BadPlace) as caught:
                whole.where(value)
            self.assertIs(caught.exception.given, value)
        self.assertEqual(whole.where(("", 0)), "@id(2)(3)")


if __name__ == "__main__":
    unittest.main()
