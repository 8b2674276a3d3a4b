import itertools
import random
import unittest

from widestkind.books import Book
from widestkind.errors import (BadKind, BadLine, BadMacro, BadName, KindError, NoSuch, NothingToRedo, NothingToUndo, TooMany, Twice,
                               Unknown)
from widestkind.fillings import told
from widestkind.kinds import kind_text, read_kind
from widestkind.shelf import Shelf
from widestkind.solving import fits
from widestkind.wholes import Whole
from widestkind.widest import widest

TEXT = ("def one = 1[m]\nkind tree 'a = Leaf | Node({left : tree('a), here : 'a})\nmacro both(e) = {a = e, b = e}\n"
        "def two = one + one\nkind day = Sun | Rain\nmacro once(e) = @both(e).a")

LINES = [
    "kind tree 'a = Leaf | Node({left : tree('a), here : 'a})", "kind tree 'a = Leaf", "kind tree 'b = Leaf | Node({left : tree('b), here : 'b})",
    "kind day = Sun | Rain", "kind day = Sun | A", "kind wood = Wood(tree(num))", "macro id(e) = e", "macro id(e) = {a = e}", "macro id(e, f) = e",
    "macro both(e) = {a = e, b = @id(e)}", "macro hide($x, e) = let $x = 1 in e", "def one = 1[m]", "def one = 1[s]", "def one = T", "def one = fn x -> x",
    "def one = gone", "def one = @id(2)", "def one = fail w", "def one = two", "def two = one + one", "def two = {a = one, b = one}", "def two = three",
    "def two = one(one)", "def two = (one : tree(num))", "def two = fn y -> y", "def three = two + 1[m]", "def three = @both(one)", "def three = Leaf",
    "def three = match two {Sun -> 1; Rain -> 2}", "def four = rec f x = three(f)(x) in f", "def four = fn one -> one(two)", "def four = @hide(z, one)",
    "def four = (fail w : <A : {}, Sun : wood>)", "def one = @gone(1)", "def four = @hide(1, 2)",
]


def state(shelf):
    return [shelf.lines(), shelf.names(), shelf.looked(), shelf.broke(), shelf.healed(), shelf.verdicts(), str(shelf.as_book())]


def kind_in(book, name):
    """The widest kind of a definition, or None."""
    try:
        whole = Whole(book, name)
    except KindError:
        return None
    return told(widest(whole)) if fits(whole) else None


def sorts_of(deeds):
    """The shelf behind lines that are put in one after the other, which may raise."""
    shelf = Shelf()
    for line in deeds:
        try:
            shelf.put(line)
        except KindError:
            continue
    return shelf


class Lines(unittest.TestCase):
    def test_example(self):
        shelf = Shelf("def one = 1[m]\ndef two = one + one")
        self.assertEqual([kind_text(shelf.verdict("two")[1]), shelf.looked(), kind_text(shelf.demand("two", "one")[1])], ["num[m]", {}, "num['m1]"])
        shelf.put("def three = two + 1[m]")
        self.assertEqual([shelf.trial("def one = 1[s]"), shelf.would_fit("one", read_kind("num[s]")), shelf.looked()],
                         [({"one": ["tree"], "three": ["uses"], "two": ["uses"]}, ["three"], []), ["two"], {"three": ["new"]}])
        shelf.put("def one = 1[s]")
        self.assertEqual([shelf.verdict("three"), shelf.lots(), shelf.cures()], [("clash",), [["one", "three", "two"]], [["one"], ["three"], ["two"]]])

    def test_lines_by_sorts(self):
        shelf = Shelf(text=TEXT)
        lines = TEXT.split("\n")
        self.assertEqual(shelf.lines(), [lines[1], lines[4], lines[2], lines[5], lines[0], lines[3]])
        self.assertEqual(shelf.names(), ["one", "two"])
        self.assertEqual(shelf.as_book(), Book("\n".join(shelf.lines())))
        self.assertEqual([Shelf().lines(), Shelf("").names(), Shelf().verdicts()], [[], [], {}])
        shelf.put("  def   zero=0 ")
        shelf.put("kind  night = Moon")
        shelf.put("macro  last( ) = 1")
        self.assertEqual(shelf.lines(), [lines[1], lines[4], "kind  night = Moon", lines[2], lines[5], "macro  last( ) = 1", lines[0], lines[3], "  def   zero=0 "])
        shelf.put("macro both(e) = {a = e}")
        self.assertEqual(shelf.lines()[3], "macro both(e) = {a = e}")
        shelf.take("kind", "day")
        shelf.take(sort="def", name="one")
        self.assertEqual(shelf.lines(), [lines[1], "kind  night = Moon", "macro both(e) = {a = e}", lines[5], "macro  last( ) = 1", lines[3], "  def   zero=0 "])

    def test_what_books_raise(self):
        for text, wrong, field in [("def one = 1\nfoo", BadLine, {"number": 2}), ("def one = 1\ndef one = 2", Twice, {"name": "one"}), ("\n", BadLine, {"number": 1}),
                                   ("macro m(e) = @n(e)", BadMacro, {"name": "n"}), ("kind day = Sun(moon)", Unknown, {"name": "moon"})]:
            with self.assertRaises(wrong) as caught:
                Shelf(text)
            self.assertEqual(vars(caught.exception), field)
        shelf = Shelf(TEXT)
        before = state(shelf)
        for line, wrong, field in [
                ("", BadLine, {"number": 7}), ("  ", BadLine, {"number": 7}), ("def", BadLine, {"number": 7}), ("def let = 1", BadLine, {"number": 7}), ("def = 1", BadLine, {"number": 7}),
                ("def Sun = 1", BadLine, {"number": 7}), ("one = 1", BadLine, {"number": 7}), ("def three = 1\ndef four = 2", BadLine, {"number": 7}), ("\ndef three = 1", BadLine, {"number": 7}),
                ("def three = 1\n", BadLine, {"number": 7}), ("def three", BadLine, {"number": 7}), ("def one", BadLine, {"number": 5}), ("def x1 = 2", BadLine, {"number": 7}),
                ("kind x1 = T", BadLine, {"number": 3}), ("macro m", BadLine, {"number": 5}), ("macro both", BadLine, {"number": 3}), ("kind day = ", BadLine, {"number": 2}),
                ("defone = 2", BadLine, {"number": 7}), ("macro both(e, f) = e", BadMacro, {"name": "both"}), ("kind day = Leaf", Twice, {"name": "Leaf"}), ("kind day = 'a", BadLine, {"number": 2}),
                ("kind day = Sun(moon)", Unknown, {"name": "moon"}), ("macro once(e) = @once(e)", BadMacro, {"name": "once"}), ("kind tree 'a = Leaf('b)", BadName, {"name": "'b"}),
                ("def two = {a = 1, a = 2}", BadLine, {"number": 6}), ("def two = #", BadLine, {"number": 6}), ("# def two = 1", BadLine, {"number": 7})]:
            for ask in [shelf.put, shelf.trial]:
                with self.assertRaises(wrong, msg=line) as caught:
                    ask(line)
                self.assertEqual(vars(caught.exception), field, line)
            self.assertEqual(state(shelf), before)
        for sort, name in [("def", "gone"), ("kind", "one"), ("macro", "tree"), ("def", "both"), ("line", "one"), ("", "")]:
            with self.assertRaises(NoSuch) as caught:
                shelf.take(sort, name)
            self.assertEqual(caught.exception.name, name)
        with self.assertRaises(BadMacro) as caught:
            shelf.take("macro", "both")
        self.assertEqual(caught.exception.name, "both")
        shelf.put("kind wood = Wood(tree(num))")
        with self.assertRaises(Unknown) as caught:
            shelf.take("kind", "tree")
        self.assertEqual(caught.exception.name, "tree")
        self.assertEqual(shelf.lines()[2], "kind wood = Wood(tree(num))")


class Verdicts(unittest.TestCase):
    def test_each_verdict_in_its_order(self):
        shelf = Shelf("macro id(e) = e\nmacro hide($x, e) = let $x = 1 in e\ndef aa = @gone(lost)\ndef ab = @id(1, 2)\ndef ac = @hide(1, 2)\ndef ad = 1 + @hide(x, lost)\n"
                      "def ba = (1 : tree(num))\ndef bb = bc + lost\ndef bc = bb + other + aa\ndef ca = bb\ndef cb = {a = ca, b = 1(2)}\ndef da = 1(2)\ndef ea = fn x -> x\n"
                      "def fa = fb(aa)(da)\ndef fb = fa(da)\ndef ga = ea(1) + 1[m]\ndef ha = ea")
        self.assertEqual(shelf.verdicts(), {
            "aa": ("macro", "gone"), "ab": ("macro", "id"), "ac": ("macro", "hide"), "ad": ("unknown", "lost"), "ba": ("unknown", "tree"), "bb": ("unknown", "lost"),
            "bc": ("unknown", "lost"), "ca": ("leans", "bb"), "cb": ("leans", "ca"), "da": ("clash",), "ea": ("kind", read_kind("'a1 -> 'a1")), "fa": ("leans", "aa"),
            "fb": ("leans", "aa"), "ga": ("clash",), "ha": ("kind", read_kind("'a1 -> 'a1"))})
        self.assertEqual(list(shelf.verdicts()), sorted(shelf.verdicts()))
        self.assertEqual(shelf.verdict(name="ha"), ("kind", read_kind("'a1 -> 'a1")))
        for name in ["gone", "x", "", "id"]:
            with self.assertRaises(NoSuch) as caught:
                shelf.verdict(name)
            self.assertEqual(caught.exception.name, name)

    def test_groups(self):
        shelf = Shelf("def odd = fn n -> match n < 1 {Yes -> No; No -> even(n - 1)}\ndef even = fn n -> match n < 1 {Yes -> Yes; No -> odd(n - 1)}\ndef use = even(3)")
        self.assertEqual({kind_text(shelf.verdict(name)[1]) for name in ("odd", "even")}, {"num -> <No : {}, Yes : {} | 'r1>"})
        shelf.put("def even = fn n -> odd(n - 1[m])")
        self.assertEqual([shelf.verdict(name) for name in ("odd", "even", "use")], [("clash",), ("clash",), ("leans", "even")])
        self.assertEqual(shelf.looked(), {"even": ["tree"], "odd": ["tree"], "use": ["uses"]})
        self.assertEqual([shelf.broke(), shelf.healed()], [["even", "odd", "use"], []])


class Looking(unittest.TestCase):
    def looked(self, lines, deed, expected):
        shelf = Shelf("\n".join(lines))
        trial = shelf.trial(deed)
        shelf.put(deed)
        self.assertEqual(shelf.looked(), expected, deed)
        self.assertEqual(list(shelf.looked()), sorted(expected))
        self.assertEqual(trial, (shelf.looked(), shelf.broke(), shelf.healed()))
        return shelf

    def test_each_thing_of_a_reading(self):
        base = ["kind day = Sun | Rain(num)", "kind wood 'a = Wood(day)", "macro m(e) = e", "def a = fn x -> x", "def b = a(1)", "def c = Sun", "def d = T",
                "def e = (fail w : wood(num))", "def f = (fail w : <Q : {}>)", "def g = @m(b)", "def h = lost"]
        for deed, expected in [
                ("def a = fn y -> y", {}), ("def a = fn x -> x + 0", {"a": ["tree"], "b": ["uses"]}), ("def a = fn x -> (x : 'k)", {"a": ["tree"]}),
                ("def b = a(2)", {"b": ["tree"]}), ("def b = 1", {"b": ["tree", "uses"]}), ("def b = g", {"b": ["tree", "group", "uses"], "g": ["tree", "group", "uses"]}),
                ("def b = U", {"b": ["tree", "tags", "uses"], "g": ["uses"]}), ("def b = a(Sun)", {"b": ["tree", "tags", "kinds"], "g": ["uses"]}),
                ("kind day = Rain(num) | Sun", {"c": ["kinds"], "e": ["kinds"]}), ("kind day = Sun | Rain", {"c": ["kinds"], "e": ["kinds"]}),
                ("kind day = Rain", {"c": ["tags", "kinds"], "e": ["kinds"]}), ("kind wood 'b = Wood(day)", {"e": ["kinds"]}), ("kind more = T", {"d": ["tags", "kinds"]}),
                ("kind more = Q", {"f": ["tags", "kinds"]}), ("kind more = Z", {}), ("macro m(x) = x", {}), ("macro m(e) = {a = e}", {"g": ["tree"]}),
                ("macro m(e) = e + a(1)", {"g": ["tree", "uses"]}), ("macro m() = 1", {"g": ["tree", "uses"]}), ("macro n(e) = e", {}), ("def lost = 1", {"h": ["uses"], "lost": ["new"]}),
                ("def lost = fail w", {"h": ["uses"], "lost": ["new"]}), ("def lost = 1(2)", {"h": ["uses"], "lost": ["new"]}), ("def c = lost", {"c": ["tree", "tags", "kinds", "uses"]}),
                ("def d = @m(d, d)", {"d": ["tree", "tags"]}), ("def d = @n(1)", {"d": ["tree", "tags"]}), ("def h = @m(lost)", {})]:
            shelf = self.looked(base, deed, expected)
            shelf.put(deed)
            self.assertEqual(shelf.looked(), {})
        self.looked(["def a = @m(1)"], "macro m(e) = e", {"a": ["tree"]})
        self.looked(["def a = @m(b)"], "macro m(e) = e", {"a": ["tree", "uses"]})
        self.looked(["macro k() = 1", "def a = {p = @m(1), q = @n(2)}"], "macro m(e) = e", {"a": ["tree"]})
        self.looked(["def a = @m(1)"], "def a = @m(2)", {"a": ["tree"]})
        self.looked(["def a = @m(fn x -> x)"], "def a = @m(fn y -> y)", {})

    def test_broke_and_healed(self):
        shelf = Shelf("def a = 1\ndef b = a + 1\ndef c = b.q")
        shelf.put("def a = {}")
        self.assertEqual([shelf.broke(), shelf.healed(), shelf.looked()], [["b"], [], {"a": ["tree"], "b": ["uses"], "c": ["uses"]}])
        shelf.undo()
        self.assertEqual([shelf.broke(), shelf.healed(), shelf.looked()], [[], ["b"], {"a": ["tree"], "b": ["uses"], "c": ["uses"]}])
        shelf.redo()
        self.assertEqual([shelf.broke(), shelf.healed()], [["b"], []])
        shelf.take("def", "a")
        self.assertEqual([shelf.broke(), shelf.healed(), shelf.looked()], [[], [], {"b": ["uses"]}])
        shelf.put("def a = 2[m] / 1[m]")
        self.assertEqual([shelf.broke(), shelf.healed(), shelf.looked()], [[], ["b"], {"a": ["new"], "b": ["uses"], "c": ["uses"]}])
        shelf.put("def b = {q = a}")
        self.assertEqual([shelf.broke(), shelf.healed()], [[], ["c"]])
        shelf.take("def", "b")
        self.assertEqual([shelf.broke(), shelf.healed(), shelf.looked()], [["c"], [], {"c": ["uses"]}])

    def test_deeds_that_raise_change_nothing(self):
        shelf = Shelf(TEXT)
        shelf.put("def three = two")
        shelf.put("def one = T")
        shelf.undo()
        before = state(shelf)
        for deed in [lambda: shelf.put("nothing"), lambda: shelf.take("def", "gone"), lambda: shelf.take("macro", "both"), lambda: shelf.trial("x"), lambda: shelf.verdict("x"),
                     lambda: shelf.demand("x", "one"), lambda: shelf.would_fit("X", None), lambda: shelf.stands(["x"])]:
            with self.assertRaises(KindError):
                deed()
            self.assertEqual(state(shelf), before)
        shelf.redo()
        self.assertIn("def one = T", shelf.lines())

    def test_undo_and_redo(self):
        shelf = Shelf()
        for deed, wrong in [(shelf.undo, NothingToUndo), (shelf.redo, NothingToRedo)]:
            with self.assertRaises(wrong):
                deed()
        rows = [shelf.lines()]
        for line in LINES[11:20]:
            shelf.put(line)
            rows.append(shelf.lines())
        for at in range(len(rows) - 2, -1, -1):
            shelf.undo()
            self.assertEqual(shelf.lines(), rows[at])
        with self.assertRaises(NothingToUndo):
            shelf.undo()
        for row in rows[1:]:
            shelf.redo()
            self.assertEqual(shelf.lines(), row)
        with self.assertRaises(NothingToRedo):
            shelf.redo()
        shelf.undo()
        shelf.trial("def new = 1")
        shelf.redo()
        shelf.undo()
        shelf.put(shelf.lines()[0])
        self.assertEqual(shelf.looked(), {})
        with self.assertRaises(NothingToRedo):
            shelf.redo()
        shelf.undo()
        self.assertEqual(shelf.lines(), rows[-2])
        shelf.undo()
        self.assertEqual(shelf.lines(), rows[-3])

    def test_trial_changes_nothing(self):
        shelf = Shelf(TEXT)
        shelf.put("def three = two + 1[s]")
        before = state(shelf)
        for line in LINES:
            try:
                told_there = shelf.trial(line=line)
            except KindError:
                told_there = None
            self.assertEqual(state(shelf), before)
            other = sorts_of(shelf.lines())
            if told_there is not None:
                other.put(line)
                self.assertEqual(told_there, (other.looked(), other.broke(), other.healed()), line)

    def test_results_are_new(self):
        shelf = Shelf(TEXT)
        shelf.put("def one = T")
        before = state(shelf)
        for value in [shelf.lines(), shelf.names(), shelf.looked()["one"], shelf.broke(), shelf.healed(), shelf.lots(), shelf.cures(), shelf.lots()[0]]:
            value.append("spoiled")
        for value in [shelf.looked(), shelf.verdicts()]:
            value["spoiled"] = []
        told_there = shelf.trial("def one = 2")
        for value in told_there[1:]:
            value.append("spoiled")
        self.assertEqual(state(shelf), before)

    def test_as_a_new_shelf(self):
        by = random.Random(3)
        for _ in range(12):
            shelf = Shelf()
            for _ in range(20):
                before = shelf.verdicts()
                try:
                    by.choice([lambda: shelf.put(by.choice(LINES))] * 6 + [shelf.undo, shelf.redo, lambda: shelf.take("def", by.choice(["one", "two", "three"]))])()
                except KindError:
                    continue
                found = shelf.verdicts()
                other = Shelf("\n".join(shelf.lines()))
                self.assertEqual(other.lines(), shelf.lines())
                self.assertEqual(other.verdicts(), found)
                for name, verdict in found.items():
                    kind = kind_in(shelf.as_book(), name)
                    self.assertEqual(verdict[0] == "kind", kind is not None)
                    self.assertTrue(kind is None or verdict[1] == kind)
                    if name not in shelf.looked():
                        self.assertEqual(before[name], verdict)
                self.assertEqual(shelf.broke(), [name for name in found if before.get(name, "?")[0] == "kind" and found[name][0] != "kind"])
                self.assertEqual(shelf.healed(), [name for name in found if name in before and before[name][0] != "kind" and found[name][0] == "kind"])
            other = Shelf("\n".join(shelf.lines()))
            self.assertEqual([other.lots(), other.cures()], [shelf.lots(), shelf.cures()])
            for user, name in itertools.permutations(shelf.names(), 2):
                self.assertEqual(other.demand(user, name), shelf.demand(user, name))


class Demands(unittest.TestCase):
    def test_demands(self):
        shelf = Shelf("macro both(e) = {a = e, b = e(1)}\ndef one = 1[m]\ndef two = one + one\ndef user = {a = one(T), b = two, c = let one = 1 in one}\ndef clash = 1(2)\n"
                      "def self = fn x -> self(one)\ndef copied = let f = one in {p = f, q = f.a}\ndef macros = @both(one)\ndef unused = T\ndef lost = gone(one)\ndef bad = @no(one)")
        for user, name, expected in [
                ("two", "one", ["num['m1]", "num['m1]", "num['m1]"]), ("user", "two", None), ("user", "one", ["{a : 'a1, b : num['m1], c : num}", "<T : {} | 'r1> -> 'a1", "num['m1]", "num['m1]"]),
                ("clash", "one", None), ("self", "one", ["'a1 -> 'a2", "'a1"]), ("copied", "one", ["{p : 'a1, q : 'a2}", "'a3", "'a1", "{a : 'a2 | 'r1}"]),
                ("macros", "one", ["{a : 'a1, b : 'a2}", "'a1", "num -> 'a2"]), ("unused", "one", ["<T : {} | 'r1>"]), ("unused", "fresh", ["<T : {} | 'r1>"]), ("lost", "one", None),
                ("lost", "gone", ["'a1", "num[m] -> 'a1"]), ("bad", "one", None), ("two", "user", ["num[m]"])]:
            found = shelf.demand(user=user, name=name)
            self.assertEqual(None if found is None else [kind_text(kind) for kind in found], expected, (user, name))
        for user, name, wrong, given in [("gone", "one", NoSuch, "gone"), ("one", "one", NoSuch, "one"), ("gone", "X", NoSuch, "gone"), ("both", "one", NoSuch, "both"),
                                         ("two", "x1", BadName, "x1"), ("two", "let", BadName, "let"), ("two", "T", BadName, "T"), ("two", "", BadName, ""), ("two", None, BadName, None)]:
            with self.assertRaises(wrong) as caught:
                shelf.demand(user, name)
            self.assertIs(caught.exception.name, given)

    def test_would_fit(self):
        by = random.Random(8)
        tried = 0
        for _ in range(8):
            shelf = sorts_of([by.choice(LINES) for _ in range(9)])
            for name in [*shelf.names(), "new"]:
                for kind, text in [("num[m]", "1[m]"), ("'a -> 'a", "fn x -> x"), ("<T : {} | 'r>", "T"), ("'k", "fail w"), ("{}", "{}")]:
                    other = Shelf("\n".join(shelf.lines()))
                    other.put("def " + name + " = " + text)
                    expected = [user for user in other.names() if user != name and other.verdict(user)[0] == "kind"]
                    self.assertEqual(shelf.would_fit(name, read_kind(kind)), expected, (shelf.lines(), name, text))
                    tried += len(expected)
        self.assertGreater(tried, 30)
        shelf = Shelf("def one = 1\ndef two = one(one)\ndef three = {a = one + 1, b = one < 2[m]}")
        self.assertEqual(shelf.would_fit(name="one", kind=read_kind("'a -> 'a")), ["two"])
        self.assertEqual(shelf.would_fit("one", read_kind("num['m]")), ["three"])
        self.assertEqual(shelf.would_fit("one", read_kind("num")), [])
        for name, kind, wrong, given in [("X", None, BadName, "X"), ("x1", ("num", ()), BadName, "x1"), ("one", None, BadKind, None), ("one", ("num", [("m", 1)]), BadKind, ("num", [("m", 1)])),
                                         ("one", ("fn", ("name", "'a"), ("num", (("'a", 1),))), BadKind, ("fn", ("name", "'a"), ("num", (("'a", 1),))))]:
            with self.assertRaises(wrong) as caught:
                shelf.would_fit(name, kind)
            self.assertEqual(list(vars(caught.exception).values()), [given])
        self.assertEqual(shelf.would_fit("one", read_kind("gone(num)")), [])


class Lots(unittest.TestCase):
    def test_against_a_plain_search(self):
        by = random.Random(9)
        many = set()
        for _ in range(10):
            shelf = sorts_of([by.choice(LINES) for _ in range(10)])
            names = shelf.names()
            others = [line for line in shelf.lines() if not line.startswith("def ")]
            stood = {}
            for lot in [lot for count in range(len(names) + 1) for lot in itertools.combinations(names, count)]:
                lines = [line if line.split()[1] in lot else "def " + line.split()[1] + " = fail w" for line in shelf.lines() if line.startswith("def ")]
                book = Book("\n".join(others + lines))
                stood[lot] = all(kind_in(book, name) is not None for name in lot)
                self.assertIs(shelf.stands(list(lot)[::-1]), stood[lot])
            without = {lot: tuple(name for name in names if name not in lot) for lot in stood}
            lots = [list(lot) for lot in stood if not stood[lot] and all(stood[tuple(one for one in lot if one != name)] for name in lot)]
            cures = [list(lot) for lot in stood if stood[without[lot]]
                     and not any(stood[tuple(sorted((*without[lot], name)))] for name in lot)]
            self.assertEqual(shelf.lots(), sorted(lots, key=lambda lot: (len(lot), lot)))
            self.assertEqual(shelf.cures(), sorted(cures, key=lambda lot: (len(lot), lot)))
            many.add(len(lots))
        self.assertGreater(len(many), 1)

    def test_edges(self):
        self.assertEqual([Shelf().lots(), Shelf().cures(), Shelf().stands([])], [[], [[]], True])
        shelf = Shelf("def one = 1\ndef two = 1(2)\ndef three = @gone(1)\ndef four = lost")
        self.assertEqual([shelf.lots(), shelf.cures()], [[["four"], ["three"], ["two"]], [["four", "three", "two"]]])
        self.assertEqual([shelf.stands(["one", "one"]), shelf.stands(("one",)), shelf.stands(names=["two"])], [True, True, False])
        for names, wrong in [(["one", "gone", "x"], "gone"), (["gone"], "gone"), ([""], "")]:
            with self.assertRaises(NoSuch) as caught:
                shelf.stands(names)
            self.assertEqual(caught.exception.name, wrong)

    def test_too_many(self):
        shelf = Shelf("\n".join("def " + name + " = 1" for name in "abcdefgh"))
        self.assertEqual([shelf.lots(), shelf.cures()], [[], [[]]])
        shelf.put("def i = 1(2)")
        for ask in [shelf.lots, shelf.cures]:
            with self.assertRaises(TooMany) as caught:
                ask()
            self.assertEqual(caught.exception.count, 9)
        self.assertFalse(shelf.stands(["i"]))


if __name__ == "__main__":
    unittest.main()
