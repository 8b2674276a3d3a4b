import unittest

from widestkind.errors import BadFilling, BadName, BadText, Twice
from widestkind.kinds import are_kinds, closed, fill, is_kind, kind_text, names_in, read_kind
from widestkind.ratios import Ratio

NUM = ("num", ())
METRES = ("num", (("m", 1),))
A = ("name", "'a")
EMPTY = ("record", (), None)


def rows(*names):
    return ("record", tuple((name, NUM) for name in names), "'r")


class WhatIsAKind(unittest.TestCase):
    def test_kinds(self):
        for value in [NUM, METRES, A, ("fn", NUM, A), EMPTY, ("variant", (), None), ("record", (), "'r"),
                      ("record", (("a", NUM), ("a1", A), ("b", METRES)), "'r"),
                      ("variant", (("A", NUM), ("No", A)), None), ("own", "tree", ()),
                      ("own", "tree", (NUM, A, METRES)), ("num", (("'m", 2), ("m", -1))),
                      ("fn", rows("a"), rows("a")), ("fn", A, A), ("record", (("a", rows("a")),), "'r")]:
            self.assertIs(is_kind(value), True, value)

    def test_no_kinds(self):
        wrong = [None, True, 1, "num", [], (), ("num",), ["num", ()], ("num", []), ("num", (("m", 0),)),
                 ("num", (("m", True),)), ("num", (), ()), ("name",), ("name", "a"), ("name", "'"), ("name", "'fn"),
                 ("name", None), ("fn", NUM), ("fn", NUM, NUM, NUM), ("fn", NUM, None), ("fn", NUM, ["num", ()]),
                 ("record", ()), ("record", [], None), ("record", (), "r"), ("record", (), ()), ("record", (), None, 1),
                 ("record", (("a", NUM), ("a", NUM)), None), ("record", (("b", NUM), ("a", NUM)), None),
                 ("record", (("A", NUM),), None), ("record", (["a", NUM],), None), ("record", (("a",),), None),
                 ("record", (("in", NUM),), None), ("record", (("a", 3),), None), ("record", (("a", NUM, 1),), None),
                 ("variant", (("a", NUM),), None), ("variant", (("B", NUM), ("A", NUM)), None),
                 ("variant", (("AB", NUM),), None), ("own", "tree1", ()), ("own", "Tree", ()), ("own", "let", ()),
                 ("own", "tree", [NUM]), ("own", "tree", (NUM, NUM, NUM, NUM)), ("own", "tree", (1,)),
                 ("own", "tree"), ("kind", NUM), (NUM,), ((), NUM), ([], NUM), (Ratio(1), NUM), Ratio(1), {"num": ()},
                 ("num", {}), (("num", ()), ("num", ()), None), ("own", ["tree"], ()), ("record", {"a": NUM}, None)]
        for value in wrong:
            self.assertIs(is_kind(value), False, value)

    def test_one_name_for_one_thing(self):
        for value in [("fn", A, ("num", (("'a", 1),))), ("fn", A, ("record", (), "'a")),
                      ("fn", ("record", (), "'a"), ("variant", (), "'a")), ("fn", rows("a"), rows("b")),
                      ("fn", rows("a"), rows("a", "b")), ("fn", ("record", (), "'a"), ("num", (("'a", 1),))),
                      ("record", (("a", ("record", (), "'r")),), "'r"),
                      ("fn", ("variant", (("A", NUM),), "'r"), ("variant", (), "'r"))]:
            self.assertIs(is_kind(value), False, value)

    def test_told_together(self):
        for value in [[], (), [NUM], (A, A), [rows("a"), rows("a")], [A, ("num", (("'b", 1),))]]:
            self.assertIs(are_kinds(value), True, value)
        for value in [None, NUM, A, "x", {}, [NUM, None], [rows("a"), rows("b")], [A, ("num", (("'a", 1),))],
                      [A, ("record", (), "'a")], [("record", (), "'r"), ("variant", (), "'r")], [[NUM]], True,
                      Ratio(1)]:
            self.assertIs(are_kinds(value), False, value)


class KindTexts(unittest.TestCase):
    def test_there_and_back(self):
        for text in ["{a : num[m], b : 'a -> num | 'r}", "<No : {}, Yes : {}>", "{| 'r}", "tree(num)", "<>", "{}",
                     "<| 'r>", "day", "num", "num['a^2 m s^-1]", "('a -> 'b) -> 'a -> 'b", "pair('a, num[m], {})",
                     "<A : {x1 : num | 'r} | 'q>", "tree('a -> 'b)", "{a : ('a -> 'b) -> 'c}", "tree(tree(tree(num)))"]:
            kind = read_kind(text)
            self.assertTrue(is_kind(kind))
            self.assertEqual(kind_text(kind), text)

    def test_needless_spaces_brackets_and_order(self):
        for text, other in {" ( ( num ) ) ": "num", "{b:num,a:'x|'r}": "{a : 'x, b : num | 'r}",
                            "('a->('b->(num)))": "'a -> 'b -> num", "num [ s ^ - 2 m ]": "num[m s^-2]",
                            "<B:{},A:<>|'r>": "<A : <>, B : {} | 'r>", "f(num,(num))": "f(num, num)",
                            "num[m'a]": "num['a m]", "num[m^1]": "num[m]", "{a:{a:num|'r}|'r}": "{a : {a : num | 'r} | 'r}",
                            "(('a) -> 'b) -> 'c": "('a -> 'b) -> 'c", "<A:{}>->num": "<A : {}> -> num"}.items():
            self.assertEqual(kind_text(read_kind(text)), other)

    def test_bad_texts(self):
        wrong = {"": 0, "  ": 2, "{": 1, "num[": 4, "num[]": 4, "num[m^0]": 6, "num[m^]": 6, "num[m^-]": 7,
                 "f(num,num,num,num)": 13, "f()": 2, "f(num,)": 6, "tree1": 0, "num -> tree1": 7, "{a:num,}": 7,
                 "{a:num|}": 7, "{a:num|'r,b:num}": 9, "{A:num}": 1, "<a:num>": 1, "<A>": 2, "{a num}": 3, "{a:}": 3,
                 "num)": 3, "num num": 4, "num ->": 6, "-> num": 0, "num[fn]": 4, "num[A]": 4, "$x": 0, "num $x": 4,
                 "num%": 3, "'fn": 0, "'a1000": 5, "abcdefg": 6, "num\n": 3, "{a:num b": 7, "(num": 4, "T": 0,
                 "3": 0, "{|'r": 4, "{|r}": 2, "{a:num[m m}": 10, "{a : num, a : num": 17, "<A:num}": 6,
                 "{a : 'a, b : num['a] ": 21}
        for text, at in wrong.items():
            with self.assertRaises(BadText, msg=text) as caught:
                read_kind(text)
            self.assertEqual(caught.exception.at, at, text)
        for value in [None, 3, ["num"], True, Ratio(1), b"num"]:
            with self.assertRaises(BadText) as caught:
                read_kind(value)
            self.assertEqual(caught.exception.at, 0)

    def test_twice(self):
        for text, name in {"num[m m]": "m", "num['a 'a]": "'a", "{a : num, b : num, a : num}": "a",
                           "<A : {}, A : {}>": "A", "{b : num[m s m], b : num}": "m", "{b : num, b : num[m m]}": "b",
                           "{a : {c : num, c : num}, a : num}": "c", "'a -> num['a] -> num[s s^2]": "s",
                           "{x : num, a : num[s 'b s 'b], x : num}": "s", "num[m^2 m^-2]": "m"}.items():
            with self.assertRaises(Twice, msg=text) as caught:
                read_kind(text)
            self.assertEqual(caught.exception.name, name)

    def test_bad_names(self):
        for text, name in {"'a -> num['a]": "'a", "num['a] -> 'a": "'a", "{a : num | 'r} -> {b : num | 'r}": "'r",
                           "{| 'r} -> <| 'r>": "'r", "'a -> {| 'a}": "'a", "{b : 'x, a : num['x 'y]} -> 'y": "'x",
                           "{a : 'r | 'r}": "'r", "{a : num['b] -> 'a, b : 'b -> num['a]}": "'b",
                           "{a : {b : num | 'r} | 'r}": "'r", "f('a, 'b, num['b] -> num['a])": "'b"}.items():
            with self.assertRaises(BadName, msg=text) as caught:
                read_kind(text)
            self.assertEqual(caught.exception.name, name)


class Names(unittest.TestCase):
    def test_names_in(self):
        kinds = [read_kind("{b : 'x -> num['m 'l], a : 'y | 'r}"), read_kind("<A : {c : 'x | 'q} | 's> -> 'z -> num['k]")]
        self.assertEqual(names_in(kinds), (["'y", "'x", "'z"], ["'r", "'q"], ["'s"], ["'l", "'m", "'k"]))
        self.assertEqual(names_in(kinds=[]), ([], [], [], []))
        nested = read_kind("{a : {| 'q}, b : {| 'p} | 'r}")
        self.assertEqual(names_in((nested,)), ([], ["'q", "'p", "'r"], [], []))
        first, again = names_in([nested]), names_in([nested])
        first[1].append("x")
        self.assertEqual(again[1], ["'q", "'p", "'r"])

    def test_fill(self):
        kind = read_kind("{b : 'x -> num['m^2 s] | 'r} -> <A : 'x | 'v> -> 'y")
        table = {"'x": read_kind("'y -> 'x"), "'y": NUM, "'m": (("'n", 1), ("s", 1)), "'z": NUM,
                 "'r": ((("a", A), ("c", NUM)), "'r1"), "'v": ((("B", A),), None)}
        found = fill(kind, table)
        self.assertEqual(kind_text(found), "{a : 'a, b : ('y -> 'x) -> num['n^2 s^3], c : num | 'r1} -> "
                                           "<A : 'y -> 'x, B : 'a> -> num")
        self.assertEqual(fill(kind=kind, table={}), kind)
        self.assertEqual(fill(kind, {"'q": (), "'k": NUM}), kind)
        self.assertEqual(kind_text(fill(A, {"'a": ("fn", A, A)})), "'a -> 'a")
        self.assertEqual(kind_text(fill(read_kind("{| 'r} -> <| 's>"), {"'r": ((), None), "'s": ((), "'r")})),
                         "{} -> <| 'r>")

    def test_what_comes_of_it_may_be_no_kind(self):
        found = fill(read_kind("'a -> num['m]"), {"'a": ("name", "'m")})
        self.assertEqual(found, ("fn", ("name", "'m"), ("num", (("'m", 1),))))
        self.assertFalse(is_kind(found))

    def test_bad_fillings(self):
        kind = read_kind("{b : 'x -> num['m] | 'r} -> <A : 'x | 'v>")
        row = ((("a", NUM),), None)
        tags = ((("B", NUM),), None)
        for table, name in [({"'x": row}, "'x"), ({"'x": ()}, "'x"), ({"'x": (("m", 1),)}, "'x"), ({"'m": NUM}, "'m"),
                            ({"'m": row}, "'m"), ({"'m": ((), None)}, "'m"), ({"'r": NUM}, "'r"), ({"'r": ()}, "'r"),
                            ({"'r": (("m", 1), ("s", 1))}, "'r"), ({"'r": tags}, "'r"), ({"'v": row}, "'v"),
                            ({"'r": ((("b", NUM),), None)}, "'r"), ({"'v": ((("A", NUM),), "'v")}, "'v"),
                            ({"'q": row, "'v": row, "'x": row}, "'v"), ({"'x": NUM, "'r": row, "'m": A}, "'m"),
                            ({"'r": EMPTY}, "'r"), ({"'x": ((), None)}, "'x")]:
            with self.assertRaises(BadFilling, msg=table) as caught:
                fill(kind, table)
            self.assertEqual(caught.exception.name, name)

    def test_closed(self):
        kind = read_kind("{b : 'x -> num['m^2 s] | 'r} -> <A : 'x | 'v> -> <| 'w>")
        self.assertEqual(kind_text(closed(kind)), "{b : {} -> num[s]} -> <A : {}> -> <>")
        self.assertEqual(closed(NUM), NUM)
        self.assertEqual(closed(kind=A), EMPTY)


class Limits(unittest.TestCase):
    def test_deep_and_long(self):
        deep = A
        for _ in range(59):
            deep = ("record", (("a", deep),), None)
        text = kind_text(deep)
        self.assertEqual(read_kind(text), deep)
        self.assertEqual(kind_text(closed(deep)), text.replace("'a", "{}"))
        self.assertTrue(is_kind(deep))
        self.assertEqual(names_in([deep]), (["'a"], [], [], []))
        self.assertEqual(read_kind("(" * 900 + "num" + ")" * 900), NUM)
        many = [read_kind("{a : 'a%d -> num['b%d], b : 'c%d | 'r%d}" % (n, n, n, n)) for n in range(1, 601)]
        self.assertTrue(are_kinds(many))
        self.assertEqual([len(one) for one in names_in(many)], [1200, 600, 0, 600])
        self.assertFalse(are_kinds(many + [read_kind("num['c600]")]))

    def test_values_nested_thirty_deep(self):
        for start in [None, NUM, {}, []]:
            value, record = start, start
            for _ in range(30):
                value, record = [value], ("record", (("a", record),), None)
            self.assertFalse(is_kind(value))
            self.assertEqual(is_kind(record), start == NUM)


if __name__ == "__main__":
    unittest.main()
