import unittest

from widestkind.errors import BadTree
from widestkind.names import alike, binders, free, plain_names
from widestkind.ratios import Ratio
from widestkind.reading import read
from widestkind.trees import parts, show


def plain(text):
    return show(plain_names(read(text)))


def bound(text):
    return {at: binder for at, binder in enumerate(binders(read(text))) if binder is not None}


class Binders(unittest.TestCase):
    def test_example(self):
        found = [binders(read("fn x -> f(x)")), plain("fn a -> rec f x = f(a) in f"), free(read("fn x -> f(x)"))]
        self.assertEqual(found, [[None, None, None, 0], "fn x1 -> rec x2 x3 = x2(x1) in x2", ["f"]])

    def test_sorts(self):
        self.assertEqual(bound("fn x -> x"), {1: 0})
        self.assertEqual(bound("let x = x in x"), {2: 0})
        self.assertEqual(bound("rec f x = f(x) in f(x)"), {2: 0, 3: 0, 5: 0})
        self.assertEqual(bound("match x {x -> x; T(y) -> x(y)}"), {4: 3, 10: 7})
        self.assertEqual(bound("match x {{a = p, b = T(q)} -> q(p)}"), {8: 6, 9: 4})
        self.assertEqual(bound("match 1 {_ -> x}"), {})
        self.assertEqual(bound("fn x -> @m(x, y)"), {2: 0})
        self.assertEqual(bound("@m(fn x -> x, x)"), {2: 1})
        self.assertEqual(binders(tree=read("x")), [None])
        self.assertEqual(len(binders(read("match x {x -> (x : num)}"))), 6)

    def test_names_that_hide_one_another(self):
        self.assertEqual(bound("fn x -> fn x -> x"), {2: 1})
        self.assertEqual(bound("fn x -> (fn x -> x)(x)"), {3: 2, 4: 0})
        self.assertEqual(bound("fn x -> let x = x in x"), {2: 0, 3: 1})
        self.assertEqual(bound("fn x -> rec x f = x(f) in f(x)"), {3: 1, 4: 1, 7: 1})
        self.assertEqual(bound("fn x -> rec f x = x in x"), {2: 1, 3: 0})
        self.assertEqual(bound("fn x -> match x {T(x) -> x; U -> x}"), {2: 0, 6: 5, 10: 0})
        self.assertEqual(bound("fn f -> {a = f, b = fn f -> f, c = f}"), {2: 0, 4: 3, 5: 0})

    def test_free(self):
        self.assertEqual(free(read("b(a)(b)(fn c -> c(d))(c)")), ["b", "a", "d", "c"])
        self.assertEqual(free(read("let x = x in y")), ["x", "y"])
        self.assertEqual(free(read("rec f x = g in x")), ["g", "x"])
        self.assertEqual(free(tree=read("match y {{a = y} -> y(z)}")), ["y", "z"])
        self.assertEqual(free(read("{a = fail w, b = @m(q)}")), ["q"])
        self.assertEqual(free(read("fn x -> x")), [])


class Alike(unittest.TestCase):
    def test_alike(self):
        for one, other in [("fn x -> x", "fn y -> y"), ("fn x -> z", "fn z1 -> z"), ("x", "x"),
                           ("rec f x = f(x) in f", "rec g y = g(y) in g"), ("let x = x in x", "let y = x in y"),
                           ("match a {T(x) -> x; {b = y} -> y}", "match a {T(y) -> y; {b = x} -> x}"),
                           ("fn x -> fn x -> x", "fn y -> fn x -> x"), ("@m(fn x -> x)", "@m(fn y -> y)"),
                           ("fn x -> fn y -> x(y)", "fn y -> fn x -> y(x)"), ("fn x -> x2", "fn x1 -> x2")]:
            self.assertIs(alike(read(one), read(other)), True, one)
            self.assertIs(alike(read(other), read(one)), True, one)

    def test_not_alike(self):
        for one, other in [("x", "y"), ("fn x -> x", "fn x -> y"), ("fn x -> y", "fn x -> z"), ("fn x -> y", "fn y -> y"),
                           ("rec f x = f in f", "rec f x = x in f"), ("fn x -> fn y -> x", "fn x -> fn y -> y"),
                           ("{a = 1, b = 2}", "{b = 2, a = 1}"), ("1", "1[m]"), ("T", "U"), ("x + y", "x - y"),
                           ("fail x", "fail y"), ("{a = x}", "{b = x}"), ("x.a", "x.b"), ("@m(x)", "@n(x)"),
                           ("(x : num)", "(x : 'a)"), ("(x : 'a)", "(x : 'b)"), ("match a {_ -> 1}", "match a {x -> 1}"),
                           ("match a {{a = x, b = y} -> x}", "match a {{a = x, b = y} -> y}"), ("fn x -> 1", "1"),
                           ("let x = x in x", "let y = y in y"), ("match a {x -> 1; y -> 2}", "match a {x -> 1}"),
                           ("fn x -> @m(x)", "fn y -> @m(x)"), ("1", "2"), ("fn x1 -> x2", "fn x2 -> x2")]:
            self.assertIs(alike(read(one), read(other)), False, one)
            self.assertIs(alike(one=read(other), other=read(one)), False, one)


class PlainNames(unittest.TestCase):
    def test_order_of_binders(self):
        for text, wanted in {
                "fn a -> fn b -> a(b)": "fn x1 -> fn x2 -> x1(x2)", "x": "x",
                "let a = fn b -> b in fn c -> a(c)": "let x1 = fn x2 -> x2 in fn x3 -> x1(x3)",
                "rec a b = fn c -> a(b)(c) in a(b)": "rec x1 x2 = fn x3 -> x1(x2)(x3) in x1(b)",
                "match fn a -> a {{b = c, a = T(d)} -> c(d); e -> e}":
                    "match fn x1 -> x1 {{b = x2, a = T(x3)} -> x2(x3); x4 -> x4}",
                "fn x1 -> x2(x1)": "fn x1 -> x2(x1)", "fn x -> x1(x)": "fn x2 -> x1(x2)",
                "fn a -> fn b -> x2(x1)(a)(b)": "fn x3 -> fn x4 -> x2(x1)(x3)(x4)",
                "rec f x = x2 in x1": "rec x3 x4 = x2 in x1", "fn x -> fn x -> x": "fn x1 -> fn x2 -> x2",
                "(fn x1 -> x1)(x1)": "(fn x2 -> x2)(x1)", "let x = x in x": "let x1 = x in x1",
                "@m(fn a -> a, b)": "@m(fn x1 -> x1, b)", "fn a -> {a = a, b = a.a, c = fail a}":
                    "fn x1 -> {a = x1, b = x1.a, c = fail a}",
                "fn a -> {a with a = (a : num)}": "fn x1 -> {x1 with a = (x1 : num)}"}.items():
            self.assertEqual(plain(text), wanted)
            self.assertTrue(alike(read(text), read(wanted)))
            self.assertEqual(plain(wanted), wanted)
        self.assertEqual(plain_names(tree=read("x")), ("name", "x"))


class Wrong(unittest.TestCase):
    def test_bad_trees(self):
        good = read("x")
        for value in [None, True, 3, "x", [], (), ["name", "x"], ("name", "fn"), ("rec", "f", "f", good, good), {},
                      ("bind", "x"), (("any",), good), ("fn", "x", ["name", "x"]), Ratio(1)]:
            for function in (binders, free, plain_names):
                with self.assertRaises(BadTree) as caught:
                    function(value)
                self.assertIs(caught.exception.given, value)
            for pair, first in [((value, good), value), ((good, value), value), ((value, ("name",)), value)]:
                with self.assertRaises(BadTree) as caught:
                    alike(*pair)
                self.assertIs(caught.exception.given, first)


class Limits(unittest.TestCase):
    def test_many_parts(self):
        tree = ("name", "y")
        for number in range(297):
            tree = ("rec", "f", "g", ("name", "f"), tree) if number % 2 else ("fn", "x%d" % (number + 1), tree)
        found = plain_names(tree)
        self.assertTrue(alike(tree, found))
        self.assertEqual(binders(tree), binders(found))
        self.assertEqual(len(parts(found)), len(parts(tree)))
        self.assertEqual(free(found), ["y"])


if __name__ == "__main__":
    unittest.main()
