import unittest

from widestkind.books import Book
from widestkind.errors import BadMacro, BadTree
from widestkind.expanding import expanded
from widestkind.names import alike, bound_words, free
from widestkind.reading import read
from widestkind.trees import is_tree, parts, show


class Expanding(unittest.TestCase):
    def assert_expands(self, lines, text, expected, origins=None):
        tree, places = expanded(Book(lines), read(text), owner="me")
        self.assertTrue(is_tree(tree))
        self.assertTrue(alike(tree, read(expected)), show(tree))
        self.assertEqual(len(places), len(parts(tree)))
        loose = free(tree)
        for part in parts(tree):
            self.assertFalse(any(word in loose for word in bound_words(part)) and "@" in text)
        if origins is not None:
            self.assertEqual(places, origins)

    def assert_bad(self, lines, text, name):
        with self.assertRaises(BadMacro) as caught:
            expanded(Book(lines), read(text))
        self.assertEqual(caught.exception.name, name)

    def test_trees_without_calls(self):
        tree = read("fn x -> fn x1 -> rec f y = match x {A(z) -> f(z); {a = x} -> x} in x")
        found, origins = expanded(Book(), tree, owner="d")
        self.assertEqual(found, tree)
        self.assertEqual(origins, [("d", number) for number in range(len(parts(tree)))])
        self.assertEqual(expanded(book=Book("macro m() = 1"), tree=read("y")), (read("y"), [("", 0)]))
        with self.assertRaises(TypeError):
            expanded(Book(), tree, "d")

    def test_binders_of_templates_catch_no_name_of_the_text(self):
        self.assert_expands("macro k(e) = fn x -> e", "fn x -> @k(x)", "fn x -> fn y -> x")
        self.assert_expands("macro k(e) = let x = 1 in {a = e, b = x}", "@k(x)", "let y = 1 in {a = x, b = y}")
        self.assert_expands("macro k(e) = rec f x = e(f)(x) in e(f)", "@k(f(x))",
                            "rec g y = f(x)(g)(y) in f(x)(g)")
        self.assert_expands("macro k(e) = match 1 {{a = x, b = y} -> e(x)}", "fn y -> @k(x(y))",
                            "fn z -> match 1 {{a = p, b = q} -> x(z)(p)}")

    def test_binders_of_the_text_catch_no_name_of_templates(self):
        self.assert_expands("macro g() = x", "fn x -> @g()", "fn y -> x")
        self.assert_expands("macro g(a) = a(x)", "let x = 1 in @g(x)", "let y = 1 in y(x)")
        self.assert_expands("macro g() = d\ndef d = 1", "fn d -> {a = @g(), b = d}", "fn y -> {a = d, b = y}")

    def test_words_that_are_passed(self):
        self.assert_expands("macro lam($x, e) = fn $x -> e", "@lam(y, y)", "fn y -> y")
        self.assert_expands("macro lam($x, e) = fn x -> fn $x -> e(x)", "@lam(x, x)", "fn z -> fn y -> y(z)")
        self.assert_expands("macro lam($x) = fn $x -> {a = $x, b = x}", "@lam(x)", "fn y -> {a = y, b = x}")
        self.assert_expands("macro use($x) = $x + x", "fn x -> @use(x)", "fn y -> y + x")
        self.assert_expands("macro two($x, $y, e) = fn $x -> fn $y -> e", "@two(p, p, p)", "fn q -> fn p -> p")
        self.assert_expands("macro ma($x, e) = match 1 {A($x) -> e; $x -> $x}", "@ma(v, v(w))",
                            "match 1 {A(v) -> v(w); u -> u}")
        self.assert_expands("macro a(a, $a) = fn $a -> a", "@a(x, x)", "fn y -> y")

    def test_words_that_are_passed_on(self):
        lines = "macro lam($x, e) = fn $x -> e\nmacro twice($y, e) = @lam($y, @lam(y, e(y)($y)))"
        self.assert_expands(lines, "@twice(y, y(z))", "fn y -> fn u -> y(z)(u)(y)")
        lines = "macro lam($x, e) = fn $x -> e\nmacro call(a) = @lam(a, a)"
        self.assert_expands(lines, "@call(z)", "fn a -> z")
        lines = "macro lam($x, e) = fn $x -> {a = e, b = $x}\nmacro call(a) = @lam(a, @lam(a, 1))"
        self.assert_expands(lines, "@call(z)", "fn a -> {a = fn b -> {a = 1, b = b}, b = a}")
        lines = "macro use($x) = $x\nmacro call(a) = fn a -> @use(a)\nmacro free(a) = @use(a)"
        self.assert_expands(lines, "{a = @call(z), b = @free(z)}", "{a = fn b -> b, b = a}")

    def test_parameters_within_binders_of_the_same_word(self):
        self.assert_expands("macro m(a) = {a = a, b = fn a -> a, c = let a = a in a}", "@m(z)",
                            "{a = z, b = fn a -> a, c = let b = z in b}")
        self.assert_expands("macro m(a, f) = rec f a = f(a) in f(a)", "@m(z, 1)", "rec f a = f(a) in f(z)")
        self.assert_expands("macro m(a) = match a {{a = a} -> a; b -> a}", "@m(z)", "match z {{a = p} -> p; q -> z}")
        self.assert_expands("macro id(a) = a\nmacro m(a) = fn a -> @id(a)", "@m(z)", "fn b -> b")

    def test_one_name_bound_twice(self):
        self.assert_expands("macro m($f, $x) = rec $f $x = $f($x) in $f", "@m(y, y)", "rec f x = x(x) in f")
        self.assert_expands("macro m($f, $x, e) = rec $f $x = e in e", "@m(y, y, y)", "rec f x = x in f")
        self.assert_expands("macro m($x, $y) = match 1 {{a = $x, b = A($y)} -> {a = $x, b = $y}}", "@m(v, v)",
                            "match 1 {{a = p, b = A(q)} -> {a = q, b = q}}")

    def test_calls_in_what_is_passed(self):
        lines = "macro k(e) = fn x -> e(x)\nmacro two(e) = {a = e, b = e}\nmacro none(e) = 1"
        self.assert_expands(lines, "@two(@k(x))", "{a = fn y -> x(y), b = fn y -> x(y)}")
        self.assert_expands(lines, "@none(@two(@k(z)))", "1")
        self.assert_expands(lines, "@k(@k(x))", "fn y -> (fn z -> x(z))(y)")
        self.assert_bad(lines, "@none(@gone(z))", "gone")
        self.assert_bad(lines, "@two(@none(1, 2))", "none")

    def test_origins(self):
        lines = "macro swap($x, e) = fn y -> let $x = y in e(y)\nmacro id(a) = a\nmacro out(a) = {b = @id(a), a = @swap(q, a)}"
        self.assert_expands(lines, "f(@swap(x, y(x)))", "f(fn z -> let x = z in y(x)(z))", [
            ("me", 0), ("me", 1), ("@swap", 0), ("@swap", 1), ("@swap", 2), ("@swap", 3), ("me", 4), ("me", 5), ("me", 6),
            ("@swap", 5)])
        self.assert_expands(lines, "@out(@id({}))", "{b = {}, a = fn z -> let v = z in {}(z)}", [
            ("@out", 0), ("me", 2), ("@swap", 0), ("@swap", 1), ("@swap", 2), ("@swap", 3), ("me", 2), ("@swap", 5)])
        self.assert_expands("macro ma($x, e) = match e {A({a = $x}) -> $x; _ -> 1}", "@ma(v, 2)",
                            "match 2 {A({a = v}) -> v; _ -> 1}",
                            [("@ma", 0), ("me", 2), ("@ma", 2), ("@ma", 3), ("@ma", 4), ("@ma", 5), ("@ma", 6), ("@ma", 7),
                             ("@ma", 8), ("@ma", 9)])

    def test_words_stay_words(self):
        lines = "macro k(e) = fn x -> fn x1 -> e"
        tree, _ = expanded(Book(lines), read("@k(@k({a = x, b = x1, c = x2, d = y1}))"))
        self.assertEqual(free(tree), ["x", "x1", "x2", "y1"])
        deep = "macro d(a) = fn b -> fn c -> a(b)(c)"
        text = "@d(" * 12 + "x" + ")" * 12
        tree, origins = expanded(Book(deep), read(text))
        self.assertEqual([len(parts(tree)), len(origins), free(tree)], [73, 73, ["x"]])
        wide = "macro a(e) = e(e)(e)\nmacro b(e) = @a(@a(e))\nmacro c(e) = @b(@b(e))"
        tree, origins = expanded(Book(wide), read("@c(fn x -> x)"))
        self.assertEqual(len(parts(tree)), len(origins))

    def test_many_calls_that_leave_few_parts(self):
        lines = ["macro a(x, y) = x"]
        for name, inner in zip("bcdefghijk", "abcdefghij"):
            lines.append("macro " + name + "(x, y) = " + ("@" + inner + "(") * 20 + "x" + ", y)" * 20)
        self.assertEqual(expanded(Book("\n".join(lines)), read("f(@k(@k(y, 1), 2))")),
                         (read("f(y)"), [("", 0), ("", 1), ("", 4)]))
        lines = "macro id(e) = e\nmacro two(e) = @id(@id(e))\nmacro nm($x) = @two($x)"
        self.assert_expands(lines, "fn y -> @two(@nm(y))(@id(1))", "fn y -> y(1)", [("me", 0), ("me", 1), ("@nm", 1), ("me", 6)])

    def test_wrong_calls(self):
        lines = "macro m(a, $x) = a\nmacro none() = 1"
        for text, name in [("@gone()", "gone"), ("@m(1)", "m"), ("@m(1, x, y)", "m"), ("@m(x, 1)", "m"), ("@none(1)", "none"),
                           ("@m(x, x.a)", "m"), ("{a = @m(@gone(), 2), b = @gone()}", "m"), ("@m(@gone(), x)", "gone"),
                           ("f(@none())(@m())(@gone())", "m"), ("@m(1, @none())", "m")]:
            self.assert_bad(lines, text, name)

    def test_values_that_are_no_trees(self):
        for value in [None, 1, "x", ("name", "fn"), [], ("macro", "none1", ()), ("fn", "$x", ("name", "$x")),
                      ("call", ("macro", "gone", ()), ("name",)), ["name", "x"]]:
            with self.assertRaises(BadTree) as caught:
                expanded(Book(), value)
            self.assertIs(caught.exception.given, value)


if __name__ == "__main__":
    unittest.main()
