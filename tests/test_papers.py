import unittest

from widestkind.books import Book
from widestkind.errors import BadPlace
from widestkind.facts import facts
from widestkind.papers import clash, judge_clash, paper_places
from widestkind.ratios import Ratio
from widestkind.solving import fits
from widestkind.wholes import Whole

BOOK = "kind tree 'a = Leaf | Node({left : tree('a), here : 'a})\nkind own 'a 'b = Own('a -> 'b)\ndef add = fn x -> x + 1[m]"

CLASHES = [
    "1(2)", "{}.a", "fn x -> x(x)", "3[m] + 2", "{{a = 1, b = 2} with a = T}.b(3)", "match A {B -> 1}", "rec f x = f in f",
    "(fn x -> {a = 1, c = T} : {a : num | 'r} -> {a : num | 'r})({a = 1, c = 2})", "add(T)", "add(add(2[s]))",
    "(fn x -> {a = 1, c = T} : {a : num | 'r} -> {a : num | 'r})({a = 1, d = 2})", "Node(1)", "Own(fn x -> x)(1)",
    "fn x -> fn y -> {a = x * x + y, b = y + 3[m]}", "fn r -> match r {{a = A} -> {r with a = r}; {a = B} -> r}",
    "let f = fn x -> x + 1[m] in f(T)", "fn x -> (x * x : num[m^3])", "fn x -> (x : num['a^2]) + 1[m^3]",
    "fn r -> match {r with b = 1} {{a = s} -> {p = s + 1, q = r.a(1)}}", "(A : <B : {} | 'r>) + 1", "2[m] / 3[s] < 1[m]",
    "fn x -> match x {Node({here = Leaf}) -> x.here; Leaf -> T}", "fn t -> match t {A(x) -> x; Leaf -> 1}",
    "rec f x = {a = f(x), b = f(T), c = x + 1} in f", "fn x -> {a = (x : {p : 'k | 'r}), b = x.p(1), c = x.p + 1}",
    "fn f -> fn g -> {a = f(g), b = g(f)}", "fn f -> fn g -> {a = f({a = g}), b = g(A(f)), c = {a = f}.a(g)}",
    "fn g -> let f = fn x -> g(x) in {a = f(1), b = f(T)}", "(fn f -> f(f))(fn x -> x)", "match {a = 1} {{a = A} -> 1; {a = B} -> 2}",
]


def at(knot, *way, what="kind"):
    return (knot, what, way)


def variants(value):
    """Values that are near to a value: one thing in it is another one, left out, or of another sort."""
    if isinstance(value, (tuple, list)):
        for index, item in enumerate(value):
            for other in variants(item):
                yield type(value)([*value[:index], other, *value[index + 1:]])
            yield type(value)([*value[:index], *value[index + 1:]])
        yield None
        if isinstance(value, tuple):
            yield list(value)
    elif isinstance(value, Ratio):
        yield from [value + Ratio(1, 7), None, "1", True]
    elif isinstance(value, int):
        yield from [value + 1, value - 1, True, False, str(value), Ratio(value)]
    else:
        yield from [value + "x", value[1:], 1, None, [value]]


class Clash(unittest.TestCase):
    def test_example(self):
        half = Whole(Book(), "3[m] + 2")
        paper = ([], ("powers", [(Ratio(1, 2), ("fact", 0, 3)), (Ratio(-1, 2), ("fact", 1, 1)), (Ratio(1, 2), ("fact", 2, 1))]))
        self.assertIs(judge_clash(half, paper), True)
        self.assertEqual(paper_places(half, clash(half)), [("", 0), ("", 1), ("", 2)])

    def test_papers_exactly_for_places_that_do_not_fit(self):
        heads = set()
        for text in CLASHES:
            whole = Whole(Book(BOOK), text)
            paper = clash(whole)
            self.assertFalse(fits(whole))
            self.assertIs(judge_clash(whole, paper), True, text)
            self.assertFalse(fits(whole, paper_places(whole, paper)), text)
            heads.update(reason[0] for _, _, reason in paper[0])
            heads.add(paper[1][0])
            self.assertTrue(judge_clash(whole, (tuple(paper[0]), paper[1])))
        self.assertEqual(heads, {"fact", "one", "swap", "chain", "part", "but", "rest", "heads", "gone", "ring", "powers"})
        for text in ["fn x -> x", "add(0)", "rec f x = f(x) in f", "Node({left = Leaf, here = 1})"]:
            self.assertIsNone(clash(Whole(Book(BOOK), text)))

    def test_some_places(self):
        for text in CLASHES:
            whole = Whole(Book(BOOK), text)
            places = whole.places()
            for left_out in places:
                some = [place for place in places if place != left_out]
                paper = clash(whole=whole, places=some)
                self.assertEqual(paper is None, fits(whole, some))
                if paper is not None:
                    self.assertTrue(judge_clash(whole, paper))
                    found = paper_places(whole=whole, paper=paper)
                    self.assertLessEqual(set(found), set(some))
                    self.assertEqual(found, sorted(found))
        whole = Whole(Book(), "3[m] + 2")
        self.assertIsNone(clash(whole, []))
        for value in [("", 9), ("", True), None, "x"]:
            with self.assertRaises(BadPlace) as caught:
                clash(whole, [("", 0), value, ("", 9)])
            self.assertIs(caught.exception.given, value)

    def test_places_of_copies(self):
        whole = Whole(Book("def d = {a = 1(2)}\ndef e = d"), "let f = e in {}")
        some = [place for place in whole.places() if place != ("", 0)]
        self.assertEqual(paper_places(whole, clash(whole, some)), [("", 1), ("d", 1), ("d", 2), ("e", 0)])

    def test_the_same_paper_again(self):
        whole = Whole(Book(BOOK), "add(T)")
        first = clash(whole)
        kept = clash(whole)
        first[0].append("more")
        self.assertEqual(clash(whole), kept)
        self.assertEqual(clash(Whole(Book(BOOK), "add(T)")), kept)


class Judge(unittest.TestCase):
    def assert_only(self, text, paper, more=()):
        """A paper is right, and what is near to it is not, but for some that are right, too."""
        whole = Whole(Book(BOOK), text)
        self.assertIs(judge_clash(whole, paper), True)
        fine = [other for other in variants(paper) if judge_clash(whole, other)]
        for other in more:
            self.assertTrue(judge_clash(whole, other))
        self.assertEqual([other for other in fine if other not in more], [])

    def test_heads(self):
        self.assert_only("1(2)", ([(at(1), at(1), ("one",))], ("heads", 0, 0, 0, 1, 0)))

    def test_gone(self):
        self.assert_only("{}.a", ([(at(1, ".a"), at(1, ".a"), ("one",))], ("gone", 0, 0, 1, 1, 1)))
        steps = [(at(1), at(4), ("fact", 3, 0)), (at(1, "A"), at(4, "A"), ("part", 0, "A"))]
        self.assertEqual(facts(Whole(Book(), "match A {B -> 1}"), 1)[1], ("in", at(1), "A"))
        self.assert_only("match A {B -> 1}", (steps, ("gone", 1, 1, 1, 0, 1)))

    def test_ring(self):
        steps = [(at(2), at(0, what="bound"), ("fact", 2, 0)), (at(3), at(0, what="bound"), ("fact", 3, 0)),
                 (at(0, what="bound"), at(3), ("swap", 1)), (at(2), at(3), ("chain", 0, 2)), (at(2, "from"), at(3), ("fact", 1, 1)),
                 (at(3), at(2, "from"), ("swap", 4)), (at(2), at(2, "from"), ("chain", 3, 5))]
        self.assert_only("fn x -> x(x)", (steps, ("ring", 6)))
        whole = Whole(Book(), "fn x -> x(x)")
        longer = steps + [(at(2, "from"), at(2, "from", "from"), ("part", 6, "from")), (at(2), at(2, "from", "from"), ("chain", 6, 7))]
        self.assertTrue(judge_clash(whole, (longer, ("ring", 8))))
        self.assertTrue(judge_clash(whole, (longer, ("ring", 7))))
        self.assertFalse(judge_clash(whole, (steps + [(at(2, "from"), at(2), ("swap", 6))], ("ring", 7))))
        self.assertFalse(judge_clash(whole, (steps + [(at(2), at(2), ("one",))], ("ring", 7))))

    def test_but(self):
        text = "{{a = 1, b = 2} with a = T}.b(3)"
        steps = [(at(2, ".b"), at(1), ("fact", 1, 2)), (at(1), at(2, ".b"), ("swap", 0)), (at(2, ".b"), at(3, ".b"), ("but", 2, 5, "b")),
                 (at(1), at(3, ".b"), ("chain", 1, 2)), (at(3, ".b"), at(5), ("fact", 3, 4)), (at(1), at(5), ("chain", 3, 4))]
        self.assert_only(text, (steps, ("heads", 5, 0, 0, 5, 0)))
        whole = Whole(Book(BOOK), text)
        end = ("heads", 5, 0, 0, 5, 0)
        for label, step, fine in [("c", ".c", True), ("A", "A", True), ("a", ".a", False), ("fn", ".fn", False), ("b", ".c", False),
                                  ("c", "c", False), (".c", ".c", False), (0, 0, False), ("from", "from", False)]:
            more = (at(2, step), at(3, step), ("but", 2, 5, label))
            self.assertIs(judge_clash(whole, (steps + [more], end)), fine, label)
        self.assertFalse(judge_clash(whole, (steps + [(at(3, ".c"), at(2, ".c"), ("but", 2, 5, "c"))], end)))

    def test_rest(self):
        text = "(1 : {a : num | 'r})"
        whole = Whole(Book(), text)
        self.assertEqual(facts(whole, 0)[3], ("rest", at(0), ("a",), at(0, what="'r")))
        end = ("heads", 0, 0, 1, 1, 0)
        steps = [(at(0), at(1), ("fact", 0, 0))]
        self.assertTrue(judge_clash(whole, (steps, end)))
        for label, step, fine in [("b", ".b", True), ("T", "T", True), ("a", ".a", False), ("b", ".c", False), ("let", ".let", False)]:
            more = (at(0, step), at(0, step, what="'r"), ("rest", 0, 3, label))
            self.assertIs(judge_clash(whole, (steps + [more], end)), fine, label)
        self.assertFalse(judge_clash(whole, (steps + [(at(0, ".b"), at(0, ".b", what="'r"), ("but", 0, 3, "b"))], end)))
        self.assertFalse(judge_clash(whole, (steps + [(at(0, ".b"), at(0, ".b", what="'r"), ("rest", 0, 2, "b"))], end)))

    def test_powers(self):
        whole = Whole(Book(), "3[m] + 2")
        rows = [(Ratio(1, 2), ("fact", 0, 3)), (Ratio(-1, 2), ("fact", 1, 1)), (Ratio(1, 2), ("fact", 2, 1))]
        self.assertTrue(judge_clash(whole, ([], ("powers", rows))))
        self.assertTrue(judge_clash(whole, ((), ("powers", tuple(rows)))))
        self.assertTrue(judge_clash(whole, ([], ("powers", rows + [(1, ("fact", 0, 4))]))))
        for row in range(3):
            for factor in [Ratio(1, 3), 1, True, None, "1", Ratio(1, 4)]:
                other = list(rows)
                other[row] = (factor, rows[row][1])
                self.assertFalse(judge_clash(whole, ([], ("powers", other))))
            self.assertFalse(judge_clash(whole, ([], ("powers", rows[:row] + rows[row + 1:]))))
        for what in [("fact", 0, 0), ("fact", 0, 5), ("fact", 3, 0), ("fact", True, 1), ("step", 0), ("fact", 0), ["fact", 0, 4],
                     ("heads", 0, 0), None, ("fact", 0, 4, 0), ("fact", -1, 0)]:
            self.assertFalse(judge_clash(whole, ([], ("powers", rows + [(1, what)]))), what)
        self.assertFalse(judge_clash(whole, ([], ("powers", [(1, ("fact", 1, 1)), (1, ("fact", 2, 1))]))))
        self.assertFalse(judge_clash(whole, ([], ("powers", []))))

    def test_powers_with_steps(self):
        whole = Whole(Book(), "fn x -> {a = x + 1[m], b = x + 2[s]}")
        steps = [(at(3), at(0, what="bound"), ("fact", 3, 0)), (at(6), at(0, what="bound"), ("fact", 6, 0)),
                 (at(0, what="bound"), at(6), ("swap", 1)), (at(3), at(6), ("chain", 0, 2))]
        half = Ratio(1, 2)
        rows = [(half, ("fact", 2, 3)), (half, ("fact", 4, 1)), (half, ("fact", 5, 3)), (half, ("fact", 7, 1)), (half, ("step", 3))]
        self.assertTrue(judge_clash(whole, (steps, ("powers", rows))))
        self.assertFalse(judge_clash(whole, (steps, ("powers", rows[:4]))))
        self.assertFalse(judge_clash(whole, (steps, ("powers", rows[:4] + [(half, ("step", 2))]))))
        self.assertFalse(judge_clash(whole, (steps, ("powers", rows[:4] + [(half, ("step", 4))]))))
        self.assertFalse(judge_clash(whole, (steps, ("powers", rows[:4] + [(Ratio(1, 4), ("step", 3))]))))

    def test_steps_that_are_not_needed(self):
        whole = Whole(Book(), "1(2)")
        end = ("heads", 0, 0, 0, 1, 0)
        first = (at(1), at(1), ("one",))
        odd = (99, "any thing", ("x", 0, ".fn", 7))
        for step, fine in [((odd, odd, ("one",)), True), ((at(1, "from"), at(2), ("fact", 0, 1)), True),
                           ((at(2), at(1, "from"), ("fact", 0, 1)), False), ((at(1), at(1), ("swap", 0)), True),
                           ((at(1), at(1), ("swap", 1)), False), ((at(1), at(1), ("chain", 0, 0)), True),
                           ((at(1), at(1), ("chain", 0, 1)), False), ((at(1, 3), at(1, 3), ("part", 0, 3)), True),
                           ((at(1, -1), at(1, -1), ("part", 0, -1)), False), ((at(1, True), at(1, True), ("part", 0, True)), False),
                           ((at(1, 1), at(1, 1), ("part", 0, True)), False), ((at(1), at(2), ("one",)), False),
                           (((-1, "kind", ()),) * 2 + (("one",),), False), (((True, "kind", ()),) * 2 + (("one",),), False),
                           (((1, "kind", []),) * 2 + (("one",),), False), (((1, None, ()),) * 2 + (("one",),), False),
                           ((at(1), at(1), ["one"]), False), ([at(1), at(1), ("one",)], False), ((at(1), at(1), ("one", 0)), False),
                           ((at(1), at(1), ("two",)), False), ((at(1), at(1), ()), False), (None, False), ((at(1), at(1)), False)]:
            self.assertIs(judge_clash(whole, ([first, step], end)), fine, step)

    def test_any_value(self):
        whole = Whole(Book(), "1(2)")
        for value in [None, True, 1, "", [], (), {}, Ratio(1), ([], ()), ([], None), (None, ("ring", 0)), ([], ("ring", 0)),
                      ([(at(1), at(1), ("one",))], ("heads", 0, 0, 0, 1)), ([(at(1), at(1), ("one",))], ["heads", 0, 0, 0, 1, 0]),
                      [[(at(1), at(1), ("one",))], ("heads", 0, 0, 0, 1, 0)], ([(at(1), at(1), ("one",))], ("heads", 0, 0, 0, 0, 0)),
                      ([(at(1), at(1), ("one",))], ("heads", False, 0, 0, 1, 0)), ({}, ("ring", 0)), ([], ("powers", {})),
                      ([(at(1), at(1), ("one",))], ("heads", 0, 1, 0, 0, 0), 1), ([], ([], 0)), ([], ("powers", None))]:
            self.assertIs(judge_clash(whole, value), False, value)
        self.assertTrue(judge_clash(value=([(at(1), at(1), ("one",))], ("heads", 0, 1, 0, 0, 0)), whole=whole))
        self.assertFalse(judge_clash(Whole(Book(), "fn x -> x"), ([(at(1), at(1), ("one",))], ("heads", 0, 0, 0, 1, 0))))


if __name__ == "__main__":
    unittest.main()
