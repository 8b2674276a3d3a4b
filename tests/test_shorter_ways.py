"""What is worked out by a shorter way is held against the plain way that the document tells."""
import itertools
import os
import random
import sys
import unittest

from widestkind.books import Book
from widestkind.errors import KindError, NoKind
from widestkind.expanding import expanded
from widestkind.facts import facts
from widestkind.fillings import told_all
from widestkind.kinds import kind_text, read_kind
from widestkind.names import plain_names
from widestkind.reading import read
from widestkind.refuters import failed, is_mend, is_refuter, mends, refuter, refuters
from widestkind.runs import run, states
from widestkind.shelf import Shelf
from widestkind.solving import fits, solution
from widestkind.trees import show
from widestkind.wanted import put_in
from widestkind.wholes import Whole
from widestkind.widest import widest

sys.path.insert(0, os.path.dirname(os.path.abspath(__file__)))
from plain_runs import BOOK, Draws, drawn_wholes  # noqa: E402

NAMES = ["aa", "bb", "cc", "dd"]
HEADS = ["kind list 'a = Nil | Cons({head : 'a, tail : list('a)})", "kind day = Sun | Rain({cm : num[cm]})", "macro step(e) = bb(e)",
         "macro both(e) = let z = e in {a = z, b = z}", "macro hide($x, e) = fn $x -> e"]
TREES = ["fn x -> x", "1[m]", "aa", "bb(1)", "fn n -> match n < 1 {Yes -> 0; No -> aa(n - 1)}", "fn n -> @step(n)", "@both(cc)", "@both(aa).a",
         "fn l -> match l {Nil -> 0; Cons({tail = t}) -> 1 + bb(t)}", "Cons({head = aa, tail = Nil})", "{aa with a = bb}", "fn r -> {r with a = cc}",
         "(aa : num['m] -> num['m])", "(fn y -> y : {a : num | 'r} -> {a : num | 'r})", "aa({a = 1, b = cc}).b", "fn x -> (x : <T : num | 'r> -> <T : num | 'r>)(aa)",
         "(fail w : {a : 'x | 'r} -> {b : 'x | 'q})", "let g = cc in {a = g, b = g(aa)}", "rec f x = dd(f)(x) in f", "aa + bb", "1 < {}", "fn x -> bb(aa(x))",
         "fn f -> fn x -> f(f(x))", "{a = aa, b = aa, c = bb}", "match cc {Sun -> aa; y -> bb}", "@hide(aa, aa + bb)", "gone(aa)", "(1 : list(num))", "fail w", "cc.a",
         "fn x -> {a = cc(x), b = aa}", "aa(aa)", "T(bb)", "match dd {A(x) -> x; B -> aa}"]


def drawn_shelves(seed, many):
    by = random.Random(seed)
    for _ in range(many):
        lines = [line for line in HEADS if by.random() < 0.9]
        for name in by.sample(NAMES, by.randrange(2, 5)):
            lines.append("def " + name + " = " + by.choice(TREES))
        try:
            yield Shelf("\n".join(lines))
        except KindError:
            continue


def whole_or_none(book, name):
    try:
        return Whole(book, name)
    except KindError:
        return None


def with_faults(shelf, names):
    """The book in which definitions are faults, in their places or as new ones."""
    other = Shelf("\n".join(shelf.lines()))
    for name in names:
        other.put("def " + name + " = fail w")
    return other.as_book()


def plain_demand(shelf, user, name):
    """What [157] tells of a demand, by the whole of the text that is just the name of the user."""
    whole = whole_or_none(with_faults(shelf, [name]), user)
    if whole is None or not fits(whole):
        return None
    kinds = solution(whole)
    knots = whole.knots()
    roots = {use for place, use, part in knots if place == (name, 0) and part == ("fail", "w")}
    return told_all([kinds[(knot, "kind")] for knot in [0, *sorted(roots)]])


class Shelves(unittest.TestCase):
    def test_verdicts_and_demands_as_of_wholes(self):
        seen = {}
        for shelf in drawn_shelves(1, 150):
            for name, verdict in shelf.verdicts().items():
                whole = whole_or_none(shelf.as_book(), name)
                seen[verdict[0]] = seen.get(verdict[0], 0) + 1
                if verdict[0] == "kind":
                    self.assertEqual(verdict[1], widest(whole), shelf.lines())
                else:
                    self.assertTrue(whole is None or not fits(whole), (shelf.lines(), name))
            for user, name in itertools.product(shelf.names(), [*NAMES, "gone"]):
                if user != name:
                    found = shelf.demand(user, name)
                    self.assertEqual(found, plain_demand(shelf, user, name), (shelf.lines(), user, name))
                    size = "demand" if found is None or len(found) < 3 else "many"
                    seen[size] = seen.get(size, 0) + 1
        self.assertGreater(min(seen[sort] for sort in ("kind", "clash", "leans", "unknown", "demand", "many")), 15)

    def test_the_kinds_of_a_group(self):
        shelf = Shelf("kind list 'a = Nil | Cons({head : 'a, tail : list('a)})\nmacro step(e) = third(e)\ndef twice = fn f -> fn x -> f(f(x))\ndef third = fn n -> 1 + even(n)\n"
                      "def even = fn n -> match n < 1 {Yes -> 0; No -> odd(n - 1)}\ndef long = fn l -> len(l)\ndef odd = fn n -> @step(n)\n"
                      "def len = fn l -> match l {Nil -> 0; Cons({tail = t}) -> 1 + long(t)}\ndef it = (fn x -> odd(x) + third(x) : num -> num)")
        self.assertEqual({name: kind_text(verdict[1]) for name, verdict in shelf.verdicts().items()}, {
            "even": "num -> num", "it": "num -> num", "len": "list('a1) -> num", "long": "list('a1) -> num", "odd": "num -> num", "third": "num -> num",
            "twice": "('a1 -> 'a1) -> 'a1 -> 'a1"})
        other = Shelf("macro twice(e) = let z = e in {a = z, b = z}\ndef b = (fn y -> y : {a : num | 'r} -> {a : num | 'r})({a = 1, b = c}).b\n"
                      "def c = fn x -> (x : <T : num | 'r> -> <T : num | 'r>)(a)\ndef a = b(c)")
        self.assertEqual([other.lots(), other.cures(), other.verdict("a")], [[["a", "b", "c"]], [["a"], ["b"], ["c"]], ("clash",)])
        self.assertEqual([other.stands(["a", "b"]), other.stands(["c"]), other.stands(["c", "b", "a"])], [True, True, False])

    def test_lots_as_of_wholes(self):
        many = {}
        for shelf in drawn_shelves(2, 40):
            names = shelf.names()
            stood = {}
            for lot in [lot for count in range(len(names) + 1) for lot in itertools.combinations(names, count)]:
                book = with_faults(shelf, [name for name in names if name not in lot])
                wholes = [whole_or_none(book, name) for name in lot]
                stood[lot] = all(whole is not None and fits(whole) for whole in wholes)
                self.assertIs(shelf.stands(lot), stood[lot], (shelf.lines(), lot))
            lots = [list(lot) for lot in stood if not stood[lot] and all(stood[tuple(one for one in lot if one != name)] for name in lot)]
            self.assertEqual(shelf.lots(), lots)
            for lot in lots:
                many[len(lot)] = many.get(len(lot), 0) + 1
            self.assertTrue(all(set(cure) & set(lot) for cure in shelf.cures() for lot in lots))
        self.assertGreaterEqual(set(many), {1, 2})

    def test_lots_are_those_of_the_lines_there(self):
        shelf = Shelf("def a = 1\ndef b = a + 1[m]")
        found = [shelf.lots()]
        shelf.put("def a = 1[m]")
        found.append(shelf.lots())
        shelf.undo()
        found.append(shelf.lots())
        shelf.trial("def a = 1[m]")
        found.append(shelf.lots())
        shelf.put("macro m(e) = e")
        found.append(shelf.lots())
        self.assertEqual(found, [[["a", "b"]], [], [["a", "b"]], [["a", "b"]], [["a", "b"]]])
        shelf.lots()[0].append("spoiled")
        shelf.cures()[0].append("spoiled")
        self.assertEqual([shelf.lots(), shelf.cures()], [[["a", "b"]], [["a"], ["b"]]])

    def test_as_a_new_shelf_behind_changes_of_macros_and_kinds(self):
        by = random.Random(4)
        lines = [*HEADS, "macro step(e) = aa(e)", "macro both(e) = {a = e, b = e}", "macro both(e, f) = e", "kind day = Sun", "kind list 'b = Nil | Cons('b)",
                 *["def " + name + " = " + tree for name in NAMES for tree in TREES]]
        for _ in range(25):
            shelf = Shelf()
            for _ in range(12):
                try:
                    by.choice([lambda: shelf.put(by.choice(lines))] * 8 + [shelf.undo, shelf.redo, lambda: shelf.take("macro", "both"), lambda: shelf.take("kind", "day")])()
                except KindError:
                    continue
                other = Shelf("\n".join(shelf.lines()))
                self.assertEqual(list(shelf.verdicts().items()), list(other.verdicts().items()))
                self.assertEqual(shelf.as_book(), other.as_book())
                self.assertEqual(shelf.as_book().groups(), Book(str(shelf.as_book())).groups())


TEXTS = ["let f = fn r -> {r with a = 1} in {p = f({a = T, b = 2}), q = f({b = 1})}", "fn r -> {{r with a = r} with b = 1}", "fn x -> x(x) + 1",
         "(fn y -> y : {a : num | 'r} -> {a : num | 'r})({b = 1, a = 2}) + 1", "fn r -> {{p = {r with a = 1}, q = r.b + 1} with q = {r with b = T}}",
         "1[m] * 2[s] + 3[m s^2] / 1[s] + 0", "fn x -> x * x + 2[m^3]", "match T(1) {T(A) -> 1; T(x) -> x; {} -> T}", "fn x -> {a = x.b, b = x.b.b(x)}",
         "{a = 1({}), b = {} + {}, c = {} + {}}", "(fail w : {| 'r} -> <A : {| 'r}>)({a = 1}) + 1", "(fn r -> {r with a = 1})({a = T, b = {}}).b + 1",
         "(fail w : {a : num | 'r} -> {a : {} | 'r})({a = 1, b = T}).b + 1", "(fail w : {a : num | 'r} -> {a : {} | 'r})({a = 1}).b",
         "match (fail w : <A : num | 'r> -> <A : {} | 'r>)(C) {A(x) -> x; D -> 1}", "(fail w : {a : num | 'r} -> {a : 'x | 'r} -> {a : {} | 'r})({a = 1})({a = 2, c = T}).q",
         "rec f x = match x {A(y) -> f(y); B -> f} in f(A(B)) + 1"]


class Lots(unittest.TestCase):
    def test_lots_as_the_facts_tell(self):
        book = Book(BOOK)
        by = random.Random(5)
        wholes = [Whole(book, text) for text in TEXTS] + drawn_wholes(59, 60, lambda text: Whole(book, text), (2, 3, 4))
        seen = {True: 0, False: 0}
        for whole in wholes:
            places = whole.places()
            for count in range(6):
                lot = [place for place in places if count == 0 or by.random() < by.choice([0.3, 0.7, 0.95])]
                found = refuter(whole, lot)
                seen[found is None] += 1
                self.assertEqual(found is None, fits(whole, lot), (whole.text, lot))
                if found is None:
                    continue
                for place in sorted(set(lot))[::-1]:
                    less = [one for one in lot if one != place]
                    lot = lot if fits(whole, less) else less
                self.assertEqual(found, sorted(lot), whole.text)
                self.assertTrue(is_refuter(whole, found))
                others = [place for place in places if place not in found]
                self.assertEqual(is_mend(whole, found), fits(whole, others) and not any(fits(whole, [*others, place]) for place in found))
        self.assertGreater(min(seen.values()), 60)

    def test_all_lots(self):
        book = Book("def a = 1({})\ndef b = {} + {}\ndef c = {} + {}")
        whole = Whole(book, "{a = a, b = b, c = c}")
        found = [[("", 1), ("a", 0), ("a", 1)], *[[("", number), (name, 0), (name, at)] for number, name in [(2, "b"), (3, "c")] for at in (1, 2)]]
        self.assertEqual(refuters(whole), found)
        self.assertEqual(len(mends(whole)), 3 * 3 * 3)
        self.assertTrue(all(is_mend(whole, lot) for lot in mends(whole)))


class Changed(unittest.TestCase):
    def check_same(self, whole):
        """That a whole tells what one tells whose book and text are read anew."""
        other = Whole(Book(str(whole.book)), whole.text)
        self.assertEqual([whole.tree(), whole.knots(), whole.places()], [other.tree(), other.knots(), other.places()])
        self.assertEqual([facts(whole, knot) for knot in range(len(whole.knots()))], [facts(other, knot) for knot in range(len(other.knots()))])
        self.assertEqual(whole.book, other.book)
        self.assertEqual([whole.where(place) for place in whole.places()], [other.where(place) for place in other.places()])
        return other

    def test_wholes_that_come_of_others(self):
        book = Book(BOOK)
        draws = Draws(60)
        made = 0
        for whole in drawn_wholes(61, 60, lambda text: Whole(book, text), (2, 3)):
            for _ in range(6):
                place = draws.by.choice(whole.places())
                try:
                    self.check_same(put_in(whole, place, draws.tree(2, ["one", "even"])))
                    self.check_same(failed(whole, [place, whole.places()[0]]))
                    made += 1
                except KindError:
                    continue
            self.check_same(whole)
        self.assertGreater(made, 150)

    def test_books_stay_as_they_are(self):
        book = Book("macro m(e) = {a = e}\ndef f = @m(1)\ndef g = f")
        before = str(book)
        whole = Whole(book, "g")
        other = put_in(whole, ("@m", 0), read("e"))
        self.assertEqual([kind_text(widest(one)) for one in (whole, other, Whole(book, "g"), Whole(other.book, "f"))], ["{a : num}", "num", "{a : num}", "num"])
        text = put_in(whole, ("", 0), read("f.a"))
        self.assertEqual([text.text, text.book == book, Whole(book, "g").tree(), Whole(book, "f.a").tree()], ["f.a", True, ("name", "g"), read("f.a")])
        self.assertEqual([str(book), str(other.book).split("\n")[0]], [before, "macro m(e) = e"])
        tree, places = expanded(book, read("@m(f)"))
        places.append("spoiled")
        whole.knots().append("spoiled")
        whole.places().append("spoiled")
        self.assertEqual([expanded(book, read("@m(f)"))[0], Whole(book, "g").knots()], [tree, whole.knots()])
        with self.assertRaises(NoKind):
            widest(put_in(whole, ("f", 1), read("1(1)")))
        self.assertEqual(kind_text(widest(Whole(book, "f"))), "{a : num}")


RUNS = ["(rec f x = match x < 1 {Yes -> 38[m]; No -> (rec g y = match y < 1 {Yes -> f(x - 1); No -> g(y - 1) + 3[m]} in g)(3)} in f)(4)",
        "let twice = fn g -> fn x -> g(g(x)) in twice(twice)(fn y -> {a = y, b = fn x -> y})(T)", "(rec f x = match x < 1 {Yes -> fn z -> f; No -> let h = f(x - 1) in fn q -> h(q)} in f)(3)(T)",
        "match {a = T(1), b = fn k -> fn j -> k(j)} {{a = T(y), b = g} -> g(fn w -> {p = w, q = y, r = g}); _ -> 0}", "rec f x = {a = x, b = f} in let g = f in {one = g(fn x -> x), two = f}",
        "{u = fn x -> x, v = (fn a -> fn b -> {a = a, b = b, c = fn a -> b})(fn x -> x)(fn y -> fn z -> y), w = fn y -> T(y)(T)}", "T((fn x -> x)({}))(2)", "{a = T((fn x -> x)({})), b = T({a = (fn x -> x)({})}.a)(1)}",
        "let r = {a = 0 - 1 / 3, b = T} in {r with a = match r {{a = x, b = T} -> fn y -> x + y * (x - y); z -> z}}", "(fn x -> (x : num -> num))(fn y -> (y + 1) * 2 < 3)"]


class States(unittest.TestCase):
    def test_states_are_written_as_trees_are(self):
        book = Book("def loop = fn n -> match n < 1 {Yes -> fn a -> {n = n, a = a}; No -> loop(n - 1)}")
        for text in [*RUNS, *["let k = fn x -> {o = x} in k(" + text + ")" for text in RUNS], "loop(3)(fn x -> loop)"]:
            rows = states(Whole(book, text), 25)
            for row in rows:
                self.assertEqual(row, show(plain_names(read(row))), text)
            self.assertEqual(rows[0], show(plain_names(read(text))))
            left = 25
            for index, row in enumerate(rows):
                while states(Whole(book, row), left) != rows[index:]:
                    left -= 1
                    self.assertGreaterEqual(left, 0)

    def test_what_was_worked_out_is_written_as_it_is(self):
        for text, rows in [("T((fn x -> x)({}))(2)", ["T((fn x1 -> x1)({}))(2)", "(T)(2)"]), ("(1 + 1)(A)", ["(1 + 1)(A)", "2(A)"]),
                           ("(0 - 1) * (let x = 2 in 0 - x)", ["(0 - 1) * (let x1 = 2 in 0 - x1)", "(0 - 1) * (0 - 2)", "2"]), ("(fn x -> x)(A).b", ["(fn x1 -> x1)(A).b", "A.b"]),
                           ("(let x = A in fn y -> x).b", ["(let x1 = A in fn x2 -> x1).b", "(fn x1 -> A).b"])]:
            self.assertEqual(states(Whole(Book(), text), 5), rows)

    def test_deep_states(self):
        whole = Whole(Book(), "(rec f x = match x < 1 {Yes -> fn y -> y; No -> {a = f(x - 1), b = fn z -> x}.a} in f)(90)")
        rows = states(whole, 100)
        self.assertEqual([run(whole, 100), rows[-1]], [("done", "fn x1 -> x1"), "fn x1 -> x1"])
        longest = max(rows, key=len)
        self.assertGreater(longest.count("{a = "), 80)
        self.assertEqual(show(plain_names(read(longest))), longest)
        self.assertEqual(run(Whole(Book(), "(rec f x = match x < 1 {Yes -> 0; No -> 1 + f(x - 1)} in f)(98)"), 100), ("done", "98"))

    def test_each_ask_is_a_new_run(self):
        whole = Whole(Book(), RUNS[0])
        once = states(whole, 21)
        once.append("spoiled")
        self.assertEqual([states(whole, 21), run(whole, 28), run(whole, 9)], [once[:-1], ("done", "74[m]"), ("dry",)])
        self.assertEqual(len(once), 93)


class Kinds(unittest.TestCase):
    def test_would_fit_by_kinds(self):
        shelf = Shelf("def idn = fn x -> x\ndef sq = fn x -> x * x\ndef area = sq(idn(3[m]))\ndef both = let r = fn z -> {a = idn(z), b = idn(A)} in r(2 + 1)\ndef none = T")
        for name, kind, fitting in [("idn", "'a -> 'a", ["area", "both", "none", "sq"]), ("idn", "num['m] -> num['m]", ["area", "none", "sq"]),
                                    ("idn", "{a : 'x | 'r} -> 'x", ["none", "sq"]), ("sq", "num['m] -> num['m^2]", ["area", "both", "idn", "none"]), ("new", "num", ["area", "both", "idn", "none", "sq"])]:
            self.assertEqual(shelf.would_fit(name, read_kind(kind)), fitting, (name, kind))


if __name__ == "__main__":
    unittest.main()
