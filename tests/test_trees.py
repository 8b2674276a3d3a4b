import unittest

from widestkind.errors import BadTree
from widestkind.kinds import read_kind
from widestkind.ratios import Ratio
from widestkind.reading import read
from widestkind.trees import is_pattern, is_tree, parts, show

X = ("name", "x")
EMPTY = ("record", ())
ANY = ("any",)
MATCH = ("match", X, ((ANY, X),))

TREES = [
    X, ("name", "x1"), ("number", 0, None), ("number", 10 ** 29, (("m", 1), ("s", -2))), ("fail", "w"),
    ("fn", "x", X), ("call", X, X), ("let", "x", X, X), ("rec", "f", "x", X, X), EMPTY,
    ("record", (("b", X), ("a", X))), ("with", X, "a", X), ("field", X, "a"), ("tag", "T", EMPTY),
    ("tag", "Tabcde", X), MATCH, ("op", "+", X, X), ("op", "-", X, X), ("op", "*", X, X), ("op", "/", X, X),
    ("op", "<", X, X), ("told", X, read_kind("'a -> {b : num['m] | 'r}")), ("macro", "m", ()),
    ("macro", "m", (X, X, X, X, X)), ("match", X, ((("bind", "x"), X), (("tag", "T", ANY), X))),
]

NO_TREES = [
    None, True, 3, "x", [], (), {}, Ratio(1), ["name", "x"], ("name",), ("name", "fn"), ("name", "x", "x"),
    ("name", 3), ("name", "'a"), ("name", "$x"), ("name", "X"), ("names", "x"), (X,), ([], X), (X, X), ("any",),
    ("bind", "x"), ("number", 1), ("number", -1, None), ("number", True, None), ("number", "1", None),
    ("number", 1, ()), ("number", 1, (("'a", 1),)), ("number", 1, (("m", 0),)), ("number", 1, [("m", 1)]),
    ("number", Ratio(1), None), ("number", 1, (("s", 1), ("m", 1))), ("number", 1, True), ("fail", "in"), ("fail", X),
    ("fn", "x"), ("fn", X, X), ("fn", "x", None), ("fn", "x", X, X), ("fn", "'x", X), ("call", X), ("call", X, [X]),
    ("let", "x", X), ("let", "let", X, X), ("rec", "f", "f", X, X), ("rec", "f", "x", X), ("rec", "f", "T", X, X),
    ("record",), ("record", []), ("record", (("a", X), ("a", X))), ("record", (["a", X],)), ("record", (("a",),)),
    ("record", (("A", X),)), ("record", (("a", 1),)), ("record", (("a", X, X),)), ("record", X), ("record", None),
    ("with", X, X, "a"), ("with", X, "A", X), ("field", "a", X), ("field", X, "rec"), ("field", X), ("tag", "t", X),
    ("tag", "T"), ("tag", "T", ANY), ("tag", "Tabcdef", X), ("tag", "TU", X), ("match", X, ()), ("match", X),
    ("match", X, [(ANY, X)]), ("match", X, ([ANY, X],)), ("match", X, ((ANY,),)), ("match", X, ((X, ANY),)),
    ("match", X, ((ANY, X, X),)), ("match", X, (((), X),)), ("match", X, ((ANY, None),)),
    ("match", X, ((("record", (("a", ("bind", "x")), ("b", ("bind", "x")))), X),)), ("op", "%", X, X),
    ("op", "->", X, X), ("op", None, X, X), ("op", "+", X), ("op", ["+"], X, X), ("told", X, X), ("told", X),
    ("told", X, ("fn", ("name", "'a"), ("num", (("'a", 1),)))), ("told", X, ["num", ()]), ("macro", "m1", ()),
    ("macro", "m", []), ("macro", "m", (3,)), ("macro", "M", ()), ("macro", "m", X), ("macro", "$m", ()),
    ("call", X, ("call", X, ("name", "num"))), ("tag", "T", ("record", [])), ("op", "+", X, ("op", "+", X, True)),
]

PATTERNS = [
    ANY, ("bind", "x"), ("tag", "T", ANY), ("record", ()), ("tag", "T", ("record", ())),
    ("record", (("b", ("bind", "x")), ("a", ("bind", "y")))), ("record", (("a", ("tag", "T", ("bind", "a"))),)),
]

NO_PATTERNS = [
    None, True, 1, "_", [], (), ["any"], ("any", 1), X, ("bind",), ("bind", "fn"), ("bind", "x", "y"), ("bind", "$x"),
    ("tag", "t", ANY), ("tag", "T"), ("tag", "T", X), ("record",), ("record", []), ("record", (("a", X),)),
    ("record", (("a", ANY), ("a", ANY))), ("record", (("A", ANY),)), ("record", (["a", ANY],)), Ratio(1), {},
    ("record", (("a", ("bind", "x")), ("b", ("tag", "T", ("bind", "x"))))), ("number", 1, None), ("any", ()), (ANY, X),
]

SHOWN = [
    "fn x -> {a = x(1), b = (x + 2).c}", "match f(T) {A({a = y}) -> 3[m s^-1]; _ -> (x : num -> 'a)}",
    "{r with a = @m(x, 0)}", "x", "x1", "0", "3[m^2]", "{}", "T", "T(U)", "T({a = 1})", "T(T(x))", "fail w",
    "fn x -> fn y -> x", "let x = 3 in x", "let x = let y = 1 in y in fn z -> z", "rec f x = f(x) in f", "@m()",
    "(fn x -> x)(1)", "(let x = 1 in x).a", "(rec f x = x in f) + 1", "1 + (fn x -> x)", "f(fn x -> x)", "f(x)(y).a.b(c)",
    "a + b - c + d", "a - (b - c)", "a * b / c", "a * (b * c)", "a + b * c", "(a + b) * c", "a / (b + c)",
    "a < b", "(a < b) < (c < d)", "a + b < c * d", "f(a < b)", "(a < b) + c", "(T)(x)", "T.a", "T.a(x)", "T(x)(y)",
    "(a + b)(c)", "(a(b))".replace("(a(b))", "a(b)"), "fail w(x)", "fail w.a", "match a {_ -> 1}(x)",
    "match fn x -> x {x -> fn y -> y; T -> 1}", "match match a {_ -> b} {_ -> c}", "3(x)", "3[m].a", "{a = fn x -> x, b = a < b}",
    "{fn x -> x with a = fn x -> x}", "{x.a with b = 1}", "{{} with a = {}}", "{x(y) with a = b}", "(fn x -> x : 'a)",
    "(a < b : <No : {}, Yes : {}>)", "((x : num) : num)", "(x : num)(y)", "@m(fn x -> x, @n())", "{a = {b = {}}}",
    "match x {{} -> 1; {a = _} -> 2; {b = T, a = U(y)} -> 3; T({a = {}}) -> 4; x -> 5}", "(x : {| 'r})", "{b = 1, a = 2}",
]


class Trees(unittest.TestCase):
    def test_trees(self):
        for value in TREES:
            self.assertIs(is_tree(value), True, value)
            self.assertIs(is_tree(value=("call", value, ("fn", "y", value))), True, value)

    def test_no_trees(self):
        for value in NO_TREES:
            self.assertIs(is_tree(value), False, value)
            self.assertIs(is_tree(("call", X, value)), False, value)
            self.assertIs(is_tree(("record", (("a", value),))), False, value)
            self.assertIs(is_tree(("macro", "m", (value,))), False, value)
            self.assertIs(is_tree(("match", X, ((ANY, value),))), False, value)

    def test_patterns(self):
        for value in PATTERNS:
            self.assertIs(is_pattern(value), True, value)
            self.assertIs(is_tree(("match", X, ((value, X), (value, X)))), True, value)
        for value in NO_PATTERNS:
            self.assertIs(is_pattern(value), False, value)
            self.assertIs(is_pattern(value=("tag", "T", value)), False, value)
            self.assertIs(is_tree(("match", X, ((ANY, X), (value, X)))), False, value)

    def test_nested_values(self):
        deep, wrong = X, 3
        for _ in range(30):
            deep, wrong = ("fn", "x", deep), ("fn", "x", wrong)
        self.assertTrue(is_tree(deep))
        self.assertFalse(is_tree(wrong))


class Parts(unittest.TestCase):
    def test_order(self):
        tree = read("match f(x) {T({b = y, a = _}) -> {z = y, a = 1}; {} -> {r with a = @m(p, q)}}")
        rows = tree[2]
        entries = rows[0][0][2][1]
        self.assertEqual(parts(tree), [
            tree, tree[1], ("name", "f"), X, rows[0], rows[0][0], rows[0][0][2], entries[0][1], entries[1][1],
            rows[0][1], ("name", "y"), ("number", 1, None), rows[1], ("record", ()), rows[1][1], ("name", "r"),
            ("macro", "m", (("name", "p"), ("name", "q"))), ("name", "p"), ("name", "q")])
        tree = read("let x = (1 : num) in rec f y = a.b in fn z -> T")
        self.assertEqual(parts(tree=tree), [tree, tree[2], ("number", 1, None), tree[3], tree[3][3], ("name", "a"),
                                            tree[3][4], tree[3][4][2], EMPTY])
        self.assertEqual(parts(X), [X])

    def test_bad_trees(self):
        for value in NO_TREES:
            for function in (parts, show):
                with self.assertRaises(BadTree) as caught:
                    function(value)
                self.assertIs(caught.exception.given, value)


class Shown(unittest.TestCase):
    def test_texts(self):
        for text in SHOWN:
            self.assertEqual(show(read(text)), text)

    def test_what_is_shown_is_read_again(self):
        for tree in TREES:
            for outer in TREES:
                both = [("call", outer, tree), ("op", "-", tree, outer), ("op", "*", outer, tree), ("op", "<", tree, tree),
                        ("field", tree, "a"), ("with", tree, "a", outer), ("match", tree, ((ANY, outer), (ANY, tree))),
                        ("let", "x", tree, outer), ("told", tree, ("num", ())), ("tag", "T", tree), ("fn", "x", tree),
                        ("macro", "m", (tree, outer)), ("rec", "f", "x", tree, outer)]
                for one in both:
                    self.assertEqual(read(show(one)), one)

    def test_needless_brackets_go(self):
        for text, wanted in {"((a+b))-(c-{ })": "a + b - (c - {})", "(f)((x))": "f(x)", "((T))": "T", "T({})": "T",
                             "(T({}))(x)": "(T)(x)", "(a*b)+(c/d)": "a * b + c / d", "fn x->(fn y->(y))": "fn x -> fn y -> y",
                             "(fail w)(x)": "fail w(x)", "{a=(1),b=((T))}": "{a = 1, b = T}", "(x.a).b": "x.a.b",
                             "match (x) {T({})->(1);U(_)->(2)}": "match x {T -> 1; U(_) -> 2}",
                             "((x):((num)->'a))": "(x : num -> 'a)", "(a<b)": "a < b", "(3[m])": "3[m]"}.items():
            self.assertEqual(show(tree=read(text)), wanted)

    def test_each_bracket_is_needed(self):
        for text in SHOWN:
            tree, opened = read(text), []
            for at, sign in enumerate(text):
                if sign == "(":
                    opened.append(at)
                elif sign == ")":
                    begin = opened.pop()
                    less = text[:begin] + " " + text[begin + 1:at] + " " + text[at + 1:]
                    try:
                        same = read(less) == tree
                    except ValueError:
                        same = False
                    self.assertFalse(same, less)

    def test_limits(self):
        tree = ("number", 1, None)
        for _ in range(299):
            tree = ("op", "+", tree, X)
        self.assertEqual(len(parts(tree)), 599)
        self.assertEqual(show(tree), "1" + " + x" * 299)
        deep = X
        for _ in range(299):
            deep = ("tag", "T", deep)
        self.assertEqual(show(deep), "T(" * 299 + "x" + ")" * 299)


if __name__ == "__main__":
    unittest.main()
