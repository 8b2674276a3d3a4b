import unittest

from widestkind.errors import BadName, BadText, Twice
from widestkind.ratios import Ratio
from widestkind.reading import is_built, read, spans, tokens
from widestkind.trees import parts, show

NO_STRINGS = [None, True, 3, [], ["x"], ("name", "x"), {}, {"x": 1}, Ratio(1)]


class Tokens(unittest.TestCase):
    def test_sorts(self):
        self.assertEqual([token for token, begin in tokens("x1->'a")], ["x1", "->", "'a"])
        self.assertEqual(tokens(""), [])
        self.assertEqual(tokens("   "), [])
        self.assertEqual(tokens(" fn x1 Tab 120 'b2 $c3 - > -> 0"),
                         [("fn", 1), ("x1", 4), ("Tab", 7), ("120", 11), ("'b2", 15), ("$c3", 19), ("-", 23), (">", 25),
                          ("->", 27), ("0", 30)])
        signs = "( ) { } [ ] < > = , ; : . | + - * / @ ^ _".split()
        self.assertEqual([token for token, _ in tokens(text="".join(signs))], signs)
        self.assertEqual([token for token, _ in tokens("--> ->> <-a")], ["-", "->", "->", ">", "<", "-", "a"])

    def test_where_no_space_is_needed(self):
        for text, wanted in {"x'a'b$c$d": ["x", "'a", "'b", "$c", "$d"], "x.a(1)": ["x", ".", "a", "(", "1", ")"],
                             "A'b": ["A", "'b"], "1$x": ["1", "$x"], "_x_1_A": ["_", "x", "_", "1", "_", "A"],
                             "fn'a": ["fn", "'a"], "abcdef999": ["abcdef999"], "Abcdef": ["Abcdef"], "fn1": ["fn1"],
                             "'fn1": ["'fn1"], "matchx": ["matchx"], "@m": ["@", "m"]}.items():
            self.assertEqual([token for token, _ in tokens(text)], wanted)

    def test_wrong_signs(self):
        wrong = {"abcdefg": 6, "x0": 1, "x1234": 4, "12a": 2, "00": 1, "'fn": 0, "x01": 1, "x10a": 3, "xA": 1, "1A": 1,
                 "A1": 1, "AB": 1, "Abcdefg": 6, "'aB": 2, "'a1b": 3, "'abcdefg": 7, "$abcdefg": 7, "$fn": 0, "$": 0,
                 "'": 0, "''a": 0, "'A": 0, "$1": 0, "' a": 0, "x !": 2, "x\ny": 1, "\n": 0, "\t": 0, "&": 0, "x%": 1,
                 "fn x -> x?": 9, "01": 1, "0x": 1, "match1x": 6, "$ax": None, "$a1x": 3, "x \"": 2, "\u00e9": 0,
                 "\u0663": 0, "x\u0663": 1, "a~": 1, "matchfn": 6, "'letx in": None, "123 045": 5}
        for text, at in wrong.items():
            if at is None:
                tokens(text)
                continue
            with self.assertRaises(BadText, msg=text) as caught:
                tokens(text)
            self.assertEqual(caught.exception.at, at, text)


class Read(unittest.TestCase):
    def test_examples(self):
        self.assertEqual(read("f(T) + 2[m^2]"), ("op", "+", ("call", ("name", "f"), ("tag", "T", ("record", ()))),
                                                 ("number", 2, (("m", 2),))))
        self.assertEqual([spans("f ( T ) + 2"), show(read("((a+b))-(c-{ })")), is_built("fn x -> x) ")],
                         [[(0, 11), (0, 7), (0, 1), (4, 5), (4, 5), (10, 11)], "a + b - (c - {})", False])
        with self.assertRaises(BadText) as caught:
            read("let x = 3 in")
        self.assertEqual(caught.exception.at, 12)

    def test_forms(self):
        x, y, one = ("name", "x"), ("name", "y"), ("number", 1, None)
        for text, tree in {
                "x": x, "fn x->y": ("fn", "x", y), "let x=1 in y": ("let", "x", one, y),
                "rec f x=y in x": ("rec", "f", "x", y, x), "x<y": ("op", "<", x, y),
                "x+y-1": ("op", "-", ("op", "+", x, y), one), "x*y/1": ("op", "/", ("op", "*", x, y), one),
                "x-y*1": ("op", "-", x, ("op", "*", y, one)), "x(y)(1).a": ("field", ("call", ("call", x, y), one), "a"),
                "12 [ s m ^ - 2 ]": ("number", 12, (("m", -2), ("s", 1))), "0": ("number", 0, None),
                "0[m]": ("number", 0, (("m", 1),)), "(x:num)": ("told", x, ("num", ())), "{}": ("record", ()),
                "{b=x,a=y}": ("record", (("b", x), ("a", y))), "{x with a=y}": ("with", x, "a", y),
                "{x.a with a=y}": ("with", ("field", x, "a"), "a", y), "T": ("tag", "T", ("record", ())),
                "T(x)": ("tag", "T", x), "T({})": ("tag", "T", ("record", ())), "T(x)(y)": ("call", ("tag", "T", x), y),
                "fail w": ("fail", "w"), "@m()": ("macro", "m", ()), "@ m ( x , y )": ("macro", "m", (x, y)),
                "match x{_->y}": ("match", x, ((("any",), y),)),
                "match x{y->y;T->1;U({a=_,b=x})->x;{}->1}": ("match", x, (
                    (("bind", "y"), y), (("tag", "T", ("record", ())), one),
                    (("tag", "U", ("record", (("a", ("any",)), ("b", ("bind", "x"))))), x), (("record", ()), one))),
                "fn x->x+y": ("fn", "x", ("op", "+", x, y)), "fn x->(x:'a->'b)": ("fn", "x", (
                    "told", x, ("fn", ("name", "'a"), ("name", "'b")))), "x < fail w": ("op", "<", x, ("fail", "w"))}.items():
            self.assertEqual(read(text), tree, text)
            self.assertIs(is_built(text), True, text)

    def test_bad_texts(self):
        wrong = {"": 0, "  ": 2, ")": 0, "fn": 2, "fn x": 4, "fn x x": 5, "fn fn": 3, "fn x -> x) ": 9, "let x = 3 in": 12,
                 "x y": 2, "a < b < c": 6, "1 +": 3, "1 + fn x -> x": 4, "x.": 2, "x.A": 2, "x.1": 2, "3[": 2, "3[]": 2,
                 "3['a]": 2, "3[m^0]": 4, "3[m^-0]": 5, "3[m^]": 4, "3[m,s]": 3, "3[m": 3, "{a}": 2, "{a = 1": 6,
                 "{a = 1,}": 7, "{a = 1 with b = 2}": 7, "{x with}": 7, "{x with a}": 9, "{x with a = 1, b = 2}": 13,
                 "{T = 1}": 3, "{1 = 1}": 3, "{x x}": 3, "{": 1, "T(": 2, "T()": 2, "T x": 2, "match x": 7, "match x {}": 9,
                 "match x {_ -> 1;}": 16, "match x {1 -> 1}": 9, "match x {_ -> 1 _": 16, "match x {x.a -> 1}": 10,
                 "match x {T() -> 1}": 11, "match x {{a} -> 1}": 11, "match x {(x) -> 1}": 9, "fail": 4, "fail T": 5,
                 "@m": 2, "@m1()": 1, "@M()": 1, "@m(x": 4, "@m(,)": 3, "@m(x,)": 5, "@fn()": 1, "(x : )": 5, "(x": 2,
                 "(x : num": 8, "(x : num[m]) : num": 13, "()": 1, "x $y": 2, "$x": 0, "fn $x -> 1": 3, "'a": 0, "num": 0,
                 "let x = 1": 9, "rec f x = x": 11, "rec f = x": 6, "x -> y": 2, "_": 0, "x _": 2, "-1": 0, "x + * y": 4,
                 "x abcdefg": 2, "abcdefg": 6, "x + 12a": 6, "x + y00": 5, "( x1000": 6, "x 'fn": 2, "fn 'fn": 3, "x\n": 1,
                 "(x : a1)": 5, "(x : t(num,num,num,num))": 18, "(x : num]": 8, "fn x - > x": 5, "{with": 1, "in": 0,
                 "x ! y )": 2, "x ) !": 2, "match x {T({a = _) -> 1}": 17}
        for text, at in wrong.items():
            self.assertIs(is_built(text), False, text)
            for function in (read, spans):
                with self.assertRaises(BadText, msg=text) as caught:
                    function(text)
                self.assertEqual(caught.exception.at, at, text)

    def test_no_strings(self):
        for value in NO_STRINGS:
            self.assertIs(is_built(value), False)
            for function in (read, spans):
                with self.assertRaises(BadText) as caught:
                    function(value)
                self.assertEqual(caught.exception.at, 0)

    def check_error(self, error, words):
        for text, name in words.items():
            self.assertIs(is_built(text=text), True, text)
            for function in (read, spans):
                with self.assertRaises(error, msg=text) as caught:
                    function(text)
                self.assertEqual(caught.exception.name, name, text)

    def test_twice(self):
        self.check_error(Twice, {
            "{a = 1, b = 2, a = 3}": "a", "match x {{a = _, a = _} -> 1}": "a", "(x : {a : num, a : num})": "a",
            "(x : <A : {}, B : {}, A : {}>)": "A", "3[m s m]": "m", "(x : num['m s 'm])": "'m",
            "match x {{a = y, b = y} -> 1}": "y", "match x {{a = y, b = T({c = z, d = y})} -> 1}": "y",
            "rec f f = 1 in f": "f", "{a = {b = 1, b = 2}, a = 3}": "b", "{a = 1, a = {b = 1, b = 2}}": "a",
            "rec f f = {a = 1, a = 2} in f": "f", "{c = rec f x = {a = 1, a = 2} in rec g g = 1 in f, c = 2}": "a",
            "match x {{a = y, b = {c = y, c = y}} -> 1}": "y", "match x {{c = y, b = {a = z, a = y}} -> 1}": "a",
            "{a = 3[m m], a = 1}": "m", "3[m m] + rec f f = 1 in f".replace("rec f f = 1 in f", "(rec f f = 1 in f)"): "m",
            "(x : 'a -> num['a]) + 3[m m]": "m", "match x {x -> 1; x -> {x = 1, x = 2}}": "x"})
        for text in ["match x {{a = y} -> y; {a = y} -> y}", "{a = {a = 1}}", "fn x -> fn x -> x", "rec f x = x in x",
                     "match x {x -> match x {x -> x}}", "(x : {a : {a : num[m]}}) + 3[m]"]:
            self.assertEqual(read(text), read(show(read(text))))

    def test_bad_names(self):
        self.check_error(BadName, {
            "(x : 'a -> num['a])": "'a", "(x : {a : num | 'r} -> {b : num | 'r})": "'r", "(x : {| 'r} -> <| 'r>)": "'r",
            "{a = (x : num['b] -> 'b), b = (x : 'a -> num['a])}": "'b", "((x : 'a -> num['a]) : 'b -> {| 'b})": "'a",
            "(x : {b : 'x, a : num['x]})": "'x", "(x : {a : num['b] -> 'a, c : 'b -> num['a]})": "'b"})
        self.assertTrue(read("((x : 'a) : num['a]) + (x : {| 'a})"))


class Spans(unittest.TestCase):
    def texts(self, text):
        found = spans(text)
        self.assertEqual(len(found), len(parts(read(text))))
        return [text[begin:end] for begin, end in found]

    def test_sorts_of_parts(self):
        self.assertEqual(self.texts(" fn x -> x "), ["fn x -> x", "x"])
        self.assertEqual(self.texts("let x = (1) in (x) "), ["let x = (1) in (x)", "1", "x"])
        self.assertEqual(self.texts("rec f x = f in 3[ m ]"), ["rec f x = f in 3[ m ]", "f", "3[ m ]"])
        self.assertEqual(self.texts("((a)) + (b)"), ["((a)) + (b)", "a", "b"])
        self.assertEqual(self.texts("(((a) - b) * c)"), ["((a) - b) * c", "(a) - b", "a", "b", "c"])
        self.assertEqual(self.texts("(f)((x)).a (y)"), ["(f)((x)).a (y)", "(f)((x)).a", "(f)((x))", "f", "x", "y"])
        self.assertEqual(self.texts("( ( (x) : num ) )"), ["( (x) : num )", "x"])
        self.assertEqual(self.texts("{ a = (T), b = U({}) }"),
                         ["{ a = (T), b = U({}) }", "T", "T", "U({})", "{}"])
        self.assertEqual(self.texts("{ (r) with a = fail w }"), ["{ (r) with a = fail w }", "r", "fail w"])
        self.assertEqual(self.texts("@m ( x , (y) ) "), ["@m ( x , (y) )", "x", "y"])
        self.assertEqual(self.texts("match (x) { T -> 1 ; {a = U(_)} -> (y) }"),
                         ["match (x) { T -> 1 ; {a = U(_)} -> (y) }", "x", "T -> 1", "T", "T", "1",
                          "{a = U(_)} -> (y)", "{a = U(_)}", "U(_)", "_", "y"])
        self.assertEqual(self.texts("(T)(x)"), ["(T)(x)", "T", "T", "x"])
        self.assertEqual(spans(text="x"), [(0, 1)])
        self.assertEqual(self.texts("fn x -> (fn y -> y)"), ["fn x -> (fn y -> y)", "fn y -> y", "y"])
        self.assertEqual(self.texts("(a < (b)) < c"), ["(a < (b)) < c", "a < (b)", "a", "b", "c"])


class Limits(unittest.TestCase):
    def test_long_and_deep(self):
        text = "fn a->" * 20 + "+".join(["a"] * 79)
        self.assertEqual(len(parts(read(text))), 20 + 79 + 78)
        self.assertEqual(read(show(read(text))), read(text))
        self.assertTrue(is_built("(" * 199 + "x" + ")" * 199))
        self.assertFalse(is_built("(" * 200 + "x" + ")" * 199))
        for text in ["(" * 400, "{a=" * 133, "T(" * 200, "fn x->" * 66]:
            with self.assertRaises(BadText) as caught:
                read(text)
            self.assertEqual(caught.exception.at, len(text))
        self.assertEqual(read("9" * 30), ("number", int("9" * 30), None))


if __name__ == "__main__":
    unittest.main()
