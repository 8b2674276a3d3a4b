import unittest

from widestkind.books import Book
from widestkind.errors import BadForm, BadName, BadText, KindError, Twice
from widestkind.forms import is_form, judge
from widestkind.formtexts import form_text, read_form
from widestkind.kinds import read_kind
from widestkind.reading import tokens
from widestkind.wholes import Whole
from widestkind.widest import explicit, form_with

BOOK = Book("kind tree 'a = Leaf | Node({left : tree('a), here : 'a})\nkind day = Sun | Rain\n"
            "def twice = fn f -> fn x -> f(f(x))\ndef even = fn n -> odd(n - 1)\n"
            "def odd = fn n -> match n < 1 {Yes -> No; No -> even(n - 1)}\ndef zero = {z = 0, w = even}")

TEXTS = [
    "twice(fn r -> {r with a = 0 + r.a})", "let id = fn x -> x in id(3[m])", "even", "zero", "{a = zero, b = zero.z + 1[m s^-2]}",
    "fn x -> match x {A({p = y}) -> 0; B(z) -> 1; _ -> fail w}", "match Leaf {Leaf -> 1; Node({left = Leaf, here = x}) -> x}",
    "let r = fn x -> x.a in r({a = A, b = 0})", "rec f x = f(x) in f", "rec f x = {a = f(x).a} in 3", "Sun", "{}", "fail w",
    "fn x -> let f = fn y -> match y {A(x) -> 0[m]; _ -> (0 : num[m])} in f(A(fail w))", "0[m] * 2 / 1[s] - 0 < 4[m s^-1]",
    "(fn x -> x : ('a -> 'a) -> 'a -> 'a)", "let e = fn x -> 1 in e(e)", "(fn v -> v : <A : num['m] | 'r> -> <A : num['m] | 'r>)",
    "let f = fn x -> match x {A -> 0; _ -> 1} in {a = f(A), b = f(B), c = f(C({}))}",
    "match {a = T, b = U(1)} {{a = T, b = U(n)} -> n; {} -> 2}",
]


def raised(text):
    try:
        return read_form(text)
    except KindError as wrong:
        return type(wrong), *vars(wrong).values()


class FormTexts(unittest.TestCase):
    def test_examples(self):
        form = form_with(Whole(Book(), "fn x -> x"), read_kind("num -> num"))
        self.assertEqual(form_text(form), "( fn x : num = ( name x ) )")
        self.assertEqual(read_form(form_text(form)), form)

    def test_each_sort_of_part(self):
        self.assertEqual(form_text(explicit(Whole(BOOK, "match Leaf {Leaf -> 1; Node({left = Leaf, here = x}) -> x}"))),
                         "( match ( tag Leaf ( record ) : tree(num) ) Leaf -> ( number 1 ) ; "
                         "Node({left = Leaf, here = x}) -> ( name x ) )")
        num, name = ("num", ()), ("name", "'a")
        for tree, text in [
                (("number", 3, None, ()), "( number 3 )"), (("number", 3, (("m", 1),), (("m", 1),)), "( number 3 [m] )"),
                (("number", 0, None, (("'m1", 1),)), "( number 0 : ['m1] )"), (("number", 0, None, ()), "( number 0 : [] )"),
                (("number", 0, (("m", -2),), (("m", -2),)), "( number 0 [m^-2] )"), (("name", "x", None), "( name x )"),
                (("name", "x", ()), "( name x [] )"), (("fail", "w", ("fn", num, name)), "( fail w : num -> 'a )"),
                (("let", "x", (), ("record", ()), ("record", ())), "( let x [] = ( record ) in ( record ) )"),
                (("rec", "f", "x", ("'a", "'m"), ("fn", name, num), ("name", "x", None), ("name", "f", None)),
                 "( rec f x ['a 'm] : 'a -> num = ( name x ) in ( name f ) )"),
                (("record", (("b", ("record", ())), ("a", ("name", "x", None)))), "( record b = ( record ) , a = ( name x ) )"),
                (("with", ("name", "r", None), "a", ("record", ())), "( with ( name r ) a = ( record ) )"),
                (("field", ("name", "r", None), "a"), "( field ( name r ) a )"),
                (("tag", "T", ("record", ()), ("variant", (("T", ("record", (), None)),), None)), "( tag T ( record ) : <T : {}> )"),
                (("op", "<", ("name", "x", None), ("name", "y", None)), "( op < ( name x ) ( name y ) )"),
                (("told", ("name", "x", None), name), "( told ( name x ) : 'a )"),
                (("call", ("name", "f", None), ("name", "x", None)), "( call ( name f ) ( name x ) )"),
                (("match", ("name", "x", None), ((("tag", "T", ("record", ())), ("record", ())), (("any",), ("record", ())))),
                 "( match ( name x ) T -> ( record ) ; _ -> ( record ) )")]:
            self.assertEqual(form_text(("form", (), tree)), text)
            self.assertEqual(read_form(text), ("form", (), tree))

    def test_tables(self):
        row = ((("a", ("num", ())),), "'q")
        table = (("'a1", ("num", ())), ("'m1", (("m", 1),)), ("'m2", ()), ("'r1", row), ("'r2", ((), None)), ("'r3", ((), "'q")),
                 ("'r4", ((("T", ("name", "'k")),), None)), ("'m3", (("'x", 1), ("m", 2))))
        text = ("( name x ['a1 = num ; 'm1 = [m] ; 'm2 = [] ; 'r1 = | {a : num | 'q} ; 'r2 = | {} ; 'r3 = | {| 'q} ; "
                "'r4 = | <T : 'k> ; 'm3 = ['x m^2]] )")
        self.assertEqual(form_text(("form", (), ("name", "x", table))), text)
        self.assertEqual(read_form(text), ("form", (), ("name", "x", table)))
        for one in ["| {}", "| <>", "|{ }", "| ( < > )", "| ((({})))"]:
            self.assertEqual(read_form("( name x ['r = " + one + "] )")[2][2], (("'r", ((), None)),))
        self.assertEqual(read_form("(name x ['r = | <| 'q>])")[2][2], (("'r", ((), "'q")),))

    def test_what_is_written_is_read(self):
        for text in TEXTS:
            form = explicit(Whole(BOOK, text))
            written = form_text(form)
            self.assertEqual(read_form(written), form, text)
            self.assertEqual(form_text(read_form(written)), written)
            loose = " ".join(token for token, _ in tokens(written))
            self.assertEqual(read_form("  " + loose + " "), form)
            self.assertNotIn("  ", written)

    def test_groups(self):
        text = form_text(explicit(Whole(BOOK, "{a = zero, b = twice}")))
        self.assertTrue(text.startswith("( group ['"), text)
        groups = read_form(text)[1]
        self.assertEqual([[entry[0] for entry in group[1]] for group in groups], [["even", "odd"], ["twice"], ["zero"]])
        text = "( group ['a1 'm1] ( def d : 'a1 = ( fail w : 'a1 ) ) ( def e : num['m1] = ( number 0 : ['m1] ) ) ) ( record )"
        self.assertEqual(form_text(read_form(text)), text)

    def test_needless_brackets_and_spaces(self):
        form = read_form("( fn x : num -> num = ( match ( name x ) T -> ( name x ) ) )")
        self.assertEqual(read_form("(fn x:((num)->(num))=(match(name x)T({})->(name x)))"), form)
        self.assertEqual(read_form("( fn x : (num -> (num)) = ( match ( name x ) T({ }) -> ( name x ) ) )"), form)

    def test_forms_that_the_judge_refuses_are_read(self):
        for text in ["( name x )", "( number 2 [m] )", "( rec f x [] : num = ( name x ) in ( name f ) )",
                     "( name x ['a = num ; 'b = | {a : num}] )", "( call ( record ) ( record ) )"]:
            form = read_form(text)
            self.assertTrue(is_form(BOOK, form))
            self.assertEqual(form_text(form), text)
        with self.assertRaises(BadForm):
            judge(BOOK, read_form("( name x )"))
        twice = "( group [] ( def d : {} = ( record ) ) ( def d : {} = ( record ) ) ) ( record )"
        self.assertFalse(is_form(BOOK, read_form(twice)))
        self.assertFalse(is_form(BOOK, read_form("( fail w : missed(num) )")))

    def test_bad_texts(self):
        for text, at in [
                ("( number 3 [] )", 12), ("( number 0 )", 11), ("( number 3 : [m] )", 11), ("( number 0 : [m] [m] )", 17),
                ("( number -3 )", 9), ("( number 3 ['m] )", 12), ("( number 00 )", 10), ("", 0), ("   ", 3), ("( ", 2),
                ("( fn x", 6), ("( fn x : num = ( name x )", 25), ("( name x ) ( name x )", 11), ("x", 0), ("( x )", 2),
                ("( group [] ) ( record )", 11), ("( group ( record ) )", 8), ("( group [] ( def d : num = ( record ) ) )", 41),
                ("( group [] ( def d1 : num = ( record ) ) ) ( record )", 17), ("( group [a] ( def", 9),
                ("( def d : num = ( record ) )", 2), ("( fn fn : num = ( record ) )", 5), ("( op & ( record ) ( record ) )", 5),
                ("( op = ( record ) ( record ) )", 5), ("( record a = ( record ) , )", 26), ("( record , )", 9),
                ("( match ( record ) )", 19), ("( match ( record ) ( record ) )", 19), ("( match ( record ) T -> x )", 24),
                ("( match ( record ) $x -> ( record ) )", 19), ("( tag t ( record ) : num )", 6), ("( tag T : num )", 8),
                ("( name x [x = num] )", 10), ("( name x ['a = | num] )", 17), ("( name x ['a = | ({} -> num)] )", 21),
                ("( name x ['a = | {} -> num] )", 20), ("( name x ['a = num ; ] )", 21), ("( name x ['a num] )", 13),
                ("( let x = ( record ) in ( record ) )", 8), ("( rec f x [] = ( record ) in ( record ) )", 13),
                ("( told ( record ) num )", 18), ("( fail : num )", 7), ("( call ( record ) )", 18), ("( fn x : num ( record ) )", 13),
                ("( field ( record ) A )", 19), ("( with ( record ) a ( record ) )", 20), ("( macro m )", 2), ("( record )\n", 10),
                ("( fn x : tree(num = ( record ) )", 18), ("( fn x : T = ( record ) )", 9), ("( name x ['a = [m^0]] )", 18)]:
            self.assertEqual(raised(text), (BadText, at), text)
        for value in [None, 3, ["( record )"], True]:
            self.assertEqual(raised(value), (BadText, 0))

    def test_every_text_that_is_cut_off(self):
        text = form_text(explicit(Whole(BOOK, "{a = zero, b = let r = fn x -> x.a in r({a = A, b = 0[m]})}")))
        tried = tokens(text)
        for token, begin in tried:
            self.assertEqual(raised(text[:begin]), (BadText, begin))
        for (token, begin), (_, behind) in zip(tried, tried[1:]):
            self.assertEqual(raised(text[:begin] + "@ " + text[behind:]), (BadText, begin))

    def test_long_and_deep(self):
        deep = "( fn x : num = " * 500 + "( name x )" + " )" * 500
        self.assertGreater(len(deep), 8000)
        self.assertEqual(form_text(read_form(deep)), deep)
        self.assertEqual(raised(deep[:-2]), (BadText, len(deep) - 2))
        self.assertEqual(raised(deep + " )"), (BadText, len(deep) + 1))
        wide = "( record " + " , ".join("x" + str(index) + " = ( number " + str(index) + " [m^" + str(index) + "] )" for index in range(2, 250)) + " )"
        self.assertGreater(len(wide), 7000)
        self.assertEqual(form_text(read_form(wide)), wide)
        self.assertEqual(raised(wide.replace("x249 =", "x2 =")), (Twice, "x2"))
        kind = "( fail w : " + "(" * 4000 + "num -> num" + ")" * 4000 + " )"
        self.assertEqual(read_form(kind), read_form("( fail w : num -> num )"))
        arrows = "( fail w : " + "num -> " * 590 + "num )"
        self.assertEqual(form_text(read_form(arrows)), arrows)
        left = "( fail w : " + "(" * 500 + "num" + " -> num)" * 500 + " )"
        self.assertEqual(read_form(form_text(read_form(left))), read_form(left))

    def test_twice_and_bad_names(self):
        for text, expected in [
                ("( group ['a 'a] ( def d : num = ( number 3 ) ) ) ( number 3 )", (Twice, "'a")),
                ("( let x ['a 'b 'a] = ( record ) in ( record ) )", (Twice, "'a")),
                ("( name x ['a = num ; 'b = num ; 'a = num] )", (Twice, "'a")),
                ("( record a = ( record ) , a = ( record ) )", (Twice, "a")),
                ("( match ( record ) {a = _, a = _} -> ( record ) )", (Twice, "a")),
                ("( match ( record ) {a = x, b = x} -> ( record ) )", (Twice, "x")),
                ("( fn x : {a : num, a : num} = ( record ) )", (Twice, "a")),
                ("( fn x : <T : num, T : num> = ( record ) )", (Twice, "T")),
                ("( name x ['r = | {b : num, b : num}] )", (Twice, "b")),
                ("( number 3 [m s m] )", (Twice, "m")), ("( number 0 : ['m s 'm] )", (Twice, "'m")),
                ("( rec f f [] : num = ( record ) in ( record ) )", (Twice, "f")),
                ("( fn x : num[m m] = ( fn y : {a : num, a : num} = ( record ) ) )", (Twice, "m")),
                ("( fn x : {a : 'a | 'a} = ( name x ) )", (BadName, "'a")),
                ("( fn x : {a : {b : num | 'r} | 'r} = ( name x ) )", (BadName, "'r")),
                ("( fail w : num['k] -> 'k )", (BadName, "'k")), ("( name x ['r = | {a : 'r | 'r}] )", (BadName, "'r")),
                ("( fail w : num['k] -> 'k ) )", (BadText, 27)), ("( record a = ( fail w : 'a -> num['a] ) , a = ( record ) )", (Twice, "a")),
                ("( fn x : 'a -> {| 'a} = ( fail w : 'b -> num['b] ) )", (BadName, "'a")),
                ("( fn x : 'a = ( fail w : num['a] ) )", ("form", (), ("fn", "x", ("name", "'a"), ("fail", "w", ("num", (("'a", 1),)))))),
                ("( rec f f [] : {a : num, a : num} = ( record ) in )", (BadText, 50))]:
            self.assertEqual(raised(text), expected, text)


if __name__ == "__main__":
    unittest.main()
