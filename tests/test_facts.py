import unittest

from widestkind.books import Book
from widestkind.errors import BadKnot
from widestkind.facts import facts
from widestkind.ratios import Ratio
from widestkind.wholes import Whole


def at(knot, *way, what="kind"):
    return (knot, what, way)


class Facts(unittest.TestCase):
    def assert_facts(self, text, knot, expected, lines=""):
        self.assertEqual(facts(Whole(Book(lines), text), knot), expected)

    def test_example(self):
        self.assert_facts("let f = fn x -> x in f(f)(3)", 5, [("same", at(5), at(8))])

    def test_numbers(self):
        one = at(0)
        self.assert_facts("0", 0, [("head", one, "num")])
        self.assert_facts("3", 0, [("head", one, "num"), ("power", ((one, 1),), ())])
        self.assert_facts("0[m]", 0, [("head", one, "num"), ("power", ((one, 1),), (("m", 1),))])
        self.assert_facts("2[s^-1 m]", 0, [("head", one, "num"), ("power", ((one, 1),), (("m", 1), ("s", -1)))])
        self.assert_facts("fail w", 0, [])

    def test_names(self):
        text = "fn x -> rec f y = f(x)(y) in let g = f in match g {{a = z} -> z(g)(d)}"
        lines = "def d = fn q -> d(e)\ndef e = d"
        whole = Whole(Book(lines), text)
        names = {whole.where(place): facts(whole, knot) for knot, (place, copy, part) in enumerate(whole.knots())
                 if copy is None and part[0] == "name"}
        self.assertEqual(names["x"], [("same", at(5), at(0, what="bound"))])
        self.assertEqual(names["y"], [("same", at(6), at(1, what="bound"))])
        self.assertEqual(facts(whole, 4), [("same", at(4), at(1, what="self"))])
        self.assertEqual(facts(whole, 8), [("same", at(8), at(19, what="self"))])
        self.assertEqual(facts(whole, 10), [("same", at(10), at(25))])
        self.assertEqual([part for _, _, part in whole.knots()][16:18], [("name", "z"), ("name", "g")])
        self.assertEqual(facts(whole, 16), [("same", at(16), at(13))])
        self.assertEqual(facts(whole, 18), [("same", at(18), at(27))])
        group = {knot: part for knot, (_, copy, part) in enumerate(whole.knots()) if copy == 18}
        self.assertEqual([part[0] for part in group.values()], ["fn", "call", "name", "name", "name"])
        self.assertEqual(facts(whole, 29), [("same", at(29), at(27))])
        self.assertEqual(facts(whole, 30), [("same", at(30), at(31))])
        self.assertEqual(facts(whole, 31), [("same", at(31), at(27))])

    def test_functions_and_calls(self):
        self.assert_facts("fn x -> 0", 0, [
            ("head", at(0), "fn"), ("same", at(0, "from"), at(0, what="bound")), ("same", at(0, "to"), at(1))])
        self.assert_facts("0(0)", 0, [
            ("head", at(1), "fn"), ("same", at(1, "from"), at(2)), ("same", at(1, "to"), at(0))])
        self.assert_facts("let x = 1(2) in 0", 0, [("same", at(0), at(4))])

    def test_recs(self):
        own = [("head", at(0, what="self"), "fn"), ("same", at(0, "from", what="self"), at(0, what="bound")),
               ("same", at(0, "to", what="self"), at(1))]
        self.assert_facts("rec f x = 1 in f", 0, own + [("same", at(0), at(2))])
        self.assert_facts("rec f x = 1 in f", 2, [("same", at(2), at(3, what="self"))])
        self.assert_facts("rec f x = 1 in f", 3, [
            ("head", at(3, what="self"), "fn"), ("same", at(3, "from", what="self"), at(3, what="bound")),
            ("same", at(3, "to", what="self"), at(4))])
        self.assert_facts("let g = rec f x = 1 in 0 in g", 5, [
            ("head", at(5, what="self"), "fn"), ("same", at(5, "from", what="self"), at(5, what="bound")),
            ("same", at(5, "to", what="self"), at(6)), ("same", at(5), at(7))])

    def test_records(self):
        self.assert_facts("{}", 0, [("head", at(0), "record"), ("only", at(0), ())])
        self.assert_facts("{b = 1(2), a = 0}", 0, [
            ("head", at(0), "record"), ("in", at(0), "b"), ("same", at(0, ".b"), at(1)), ("in", at(0), "a"),
            ("same", at(0, ".a"), at(4)), ("only", at(0), ("a", "b"))])
        self.assert_facts("1.a", 0, [("head", at(1), "record"), ("in", at(1), "a"), ("same", at(1, ".a"), at(0))])
        self.assert_facts("{1 with a = 2}", 0, [
            ("head", at(1), "record"), ("in", at(1), "a"), ("head", at(0), "record"), ("in", at(0), "a"),
            ("same", at(0, ".a"), at(2)), ("but", at(0), at(1), "a")])

    def test_tags(self):
        lines = "kind pair 'a 'b = Pair({one : 'a -> pair('a, 'b), two : <A : 'b>}) | None"
        self.assert_facts("A(1)", 0, [("head", at(0), "variant"), ("in", at(0), "A"), ("same", at(0, "A"), at(1))], lines)
        content = [("head", at(1), "record"), ("in", at(1), "one"), ("in", at(1), "two"), ("only", at(1), ("one", "two")),
                   ("head", at(1, ".one"), "fn"), ("same", at(1, ".one", "from"), at(0, 0)),
                   ("head", at(1, ".one", "to"), "pair"), ("same", at(1, ".one", "to", 0), at(0, 0)),
                   ("same", at(1, ".one", "to", 1), at(0, 1)), ("head", at(1, ".two"), "variant"),
                   ("in", at(1, ".two"), "A"), ("only", at(1, ".two"), ("A",)), ("same", at(1, ".two", "A"), at(0, 1))]
        self.assert_facts("Pair(1)", 0, [("head", at(0), "pair")] + content, lines)
        self.assert_facts("None", 0, [("head", at(0), "pair"), ("head", at(1), "record"), ("only", at(1), ())], lines)

    def test_patterns(self):
        lines = "kind own = Own({})"
        text = "match 0 {{b = x, a = A(_)} -> 1; Own -> 2; {} -> 3}"
        self.assert_facts(text, 3, [
            ("head", at(3), "record"), ("in", at(3), "b"), ("same", at(3, ".b"), at(4)), ("in", at(3), "a"),
            ("same", at(3, ".a"), at(5))], lines)
        self.assert_facts(text, 4, [], lines)
        self.assert_facts(text, 5, [("head", at(5), "variant"), ("in", at(5), "A"), ("same", at(5, "A"), at(6))], lines)
        self.assert_facts(text, 6, [], lines)
        self.assert_facts(text, 9, [("head", at(9), "own"), ("head", at(10), "record"), ("only", at(10), ())], lines)
        self.assert_facts(text, 10, [("head", at(10), "record")], lines)
        self.assert_facts(text, 13, [("head", at(13), "record")], lines)

    def test_operations(self):
        heads = [("head", at(1), "num"), ("head", at(2), "num"), ("head", at(0), "num")]
        same = ("power", ((at(1), 1), (at(2), -1)), ())
        for sign in "+-":
            self.assert_facts("1 " + sign + " 2", 0, heads + [same, ("power", ((at(1), 1), (at(0), -1)), ())])
        self.assert_facts("1 * 2", 0, heads + [("power", ((at(0), 1), (at(1), -1), (at(2), -1)), ())])
        self.assert_facts("1 / 2", 0, heads + [("power", ((at(0), 1), (at(1), -1), (at(2), 1)), ())])
        self.assert_facts("1 < 2", 0, heads[:2] + [same, ("head", at(0), "variant"), ("in", at(0), "No"), ("in", at(0), "Yes"),
                                                   ("only", at(0), ("No", "Yes")), ("head", at(0, "No"), "record"),
                                                   ("only", at(0, "No"), ()), ("head", at(0, "Yes"), "record"),
                                                   ("only", at(0, "Yes"), ())])

    def test_told_kinds(self):
        kind = "({b : num['z m 'c^-2 s^-1] | 'r} -> <T : 'x | 'v>) -> own('x, num)"
        self.assert_facts("(1 : " + kind + ")", 0, [
            ("same", at(0), at(1)), ("head", at(0), "fn"), ("head", at(0, "from"), "fn"),
            ("head", at(0, "from", "from"), "record"), ("in", at(0, "from", "from"), "b"),
            ("rest", at(0, "from", "from"), ("b",), at(0, what="'r")), ("head", at(0, "from", "from", ".b"), "num"),
            ("power", ((at(0, "from", "from", ".b"), 1), (at(0, what="'c"), 2), (at(0, what="'z"), -1)), (("m", 1), ("s", -1))),
            ("head", at(0, "from", "to"), "variant"), ("in", at(0, "from", "to"), "T"),
            ("rest", at(0, "from", "to"), ("T",), at(0, what="'v")), ("same", at(0, "from", "to", "T"), at(0, what="'x")),
            ("head", at(0, "to"), "own"), ("same", at(0, "to", 0), at(0, what="'x")), ("head", at(0, "to", 1), "num"),
            ("power", ((at(0, "to", 1), 1),), ())], "kind own 'a 'b = Own('a) | Other('b)")
        self.assert_facts("(1 : {})", 0, [("same", at(0), at(1)), ("head", at(0), "record"), ("only", at(0), ())])

    def test_rows_and_closings(self):
        text = "match 0(0) {A(B) -> 1; A(C({b = D})) -> 2; E({a = F}) -> 3; E({b = F, a = G}) -> 4; E({a = F}) -> 5}"
        whole = Whole(Book("kind own = C({b : <D : {}>})"), text)
        self.assertEqual(facts(whole, 4), [("same", at(1), at(5)), ("same", at(0), at(8))])
        closing = [("head", at(5), "variant"), ("only", at(5), ("A", "E")), ("head", at(6), "variant"), ("only", at(6), ("B",)),
                   ("head", at(13), "variant"), ("only", at(13), ("D",)), ("head", at(19), "variant"), ("only", at(19), ("F", "G"))]
        self.assertEqual(facts(whole, 0), closing)
        self.assertEqual([whole.where(("", number)) for number in (5, 6, 13, 19)], ["A(B)", "B", "D", "F"])

    def test_rows_that_are_open(self):
        def ways(rows, lines=""):
            whole = Whole(Book(lines), "match 0 {" + rows + "}")
            return [whole.where(("", fact[1][0])) + " " + " ".join(fact[2]) for fact in facts(whole, 0) if fact[0] == "only"]

        self.assertEqual(ways("A -> 1; x -> 2"), [])
        self.assertEqual(ways("A -> 1; _ -> 2"), [])
        self.assertEqual(ways("A -> 1; {} -> 2"), ["A A"])
        self.assertEqual(ways("A(B) -> 1; A(x) -> 2"), ["A(B) A"])
        self.assertEqual(ways("A(B) -> 1; A -> 2"), ["A(B) A", "B B"])
        self.assertEqual(ways("{a = B} -> 1; {b = C} -> 2"), [])
        self.assertEqual(ways("{a = B} -> 1; {a = C, b = C} -> 2"), ["B B C"])
        self.assertEqual(ways("{a = B} -> 1; A(B) -> 2"), ["A(B) A", "B B", "B B"])
        self.assertEqual(ways("A({a = B}) -> 1; A({}) -> 2; T -> 3"), ["A({a = B}) A T"])
        self.assertEqual(ways("Own(A) -> 1; Own(B) -> 2", "kind own 'a = Own('a)"), ["A A B"])
        self.assertEqual(ways("Own -> 1; B -> 2", "kind own 'a = Own('a)"), ["Own B"])
        self.assertEqual(ways("Own -> 1; Two -> 2", "kind own 'a = Own('a) | Two"), [])

    def test_values_that_are_no_knots(self):
        whole = Whole(Book(), "1 + 2")
        for value in [3, -1, True, False, None, "0", [0], (0,), Ratio(1), {}, ("", 0)]:
            with self.assertRaises(BadKnot) as caught:
                facts(whole=whole, knot=value)
            self.assertIs(caught.exception.given, value)
        first = facts(whole, 0)
        first.append("more")
        self.assertNotEqual(facts(whole, 0), first)


if __name__ == "__main__":
    unittest.main()
