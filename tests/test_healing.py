import itertools
import unittest

from widestkind.books import Book
from widestkind.errors import BadDeeds, BadText, TooMany
from widestkind.healing import are_floors, distance, floors, heal, heal_right, healed, healings, is_healing
from widestkind.ratios import Ratio
from widestkind.reading import is_built, tokens

TOKENS = ("fn let in rec match with fail num -> ( ) { } [ ] < > = , ; : . | + - * / @ ^ _ x T 1 'a").split()

ROWS = {
    "tree": ["fn word -> tree", "let word = tree in tree", "rec word word = tree in tree", "compared"],
    "compared": ["sum", "sum < sum"], "sum": ["product", "sum + product", "sum - product"],
    "product": ["called", "product * called", "product / called"], "called": ["small", "called ( tree )", "called . word"],
    "small": ["word", "number", "number [ measure ]", "( tree )", "( tree : kind )", "{ }", "{ word = tree }",
              "{ word = tree , word = tree }", "{ tree with word = tree }", "tag", "tag ( tree )", "match tree { row }",
              "match tree { row ; row }", "fail word", "@ plain ( )", "@ plain ( tree )", "@ plain ( tree , tree )"],
    "row": ["pattern -> tree"],
    "pattern": ["_", "word", "tag", "tag ( pattern )", "{ }", "{ word = pattern }", "{ word = pattern , word = pattern }"],
    "measure": ["word", "word ^ power", "word ^ - power", "word word", "word word word", "word ^ power word", "word word ^ power"],
    "scale": ["word", "name", "word ^ power", "word ^ - power", "name ^ power", "name ^ - power", "word word", "name name",
              "name word", "word name", "word word word", "name word word", "word name word", "word word name"],
    "kind": ["kinds", "kinds -> kind"],
    "kinds": ["num", "num [ scale ]", "name", "plain", "plain ( kind )", "plain ( kind , kind )", "( kind )", "{ }",
              "{ word : kind }", "{ word : kind | name }", "{ | name }", "< >", "< tag : kind >", "< tag : kind | name >",
              "< | name >"],
}


def is_of(token, sort):
    if sort in ("word", "plain"):
        return "a" <= token[0] <= "z" and token not in TOKENS[:8] and (sort == "word" or token[-1].isalpha())
    if sort in ("number", "power"):
        return token[0].isdigit() and (sort == "number" or token != "0")
    if sort == "tag":
        return token[0].isupper()
    return token[0] == "'" if sort == "name" else token == sort


def cuts(begin, end, many):
    for inner in itertools.combinations_with_replacement(range(begin, end + 1), many - 1):
        yield [begin, *inner, end]


def plain_need(table, words, form, begin, end):
    """The need of [54], for rows with few repeated ones."""
    least = 10 ** 6
    for row in [row.split() for row in ROWS[form]]:
        for cut in cuts(begin, end, len(row)):
            total = 0
            for sort, low, high in zip(row, cut, cut[1:]):
                if sort in ROWS:
                    total += table[(sort, low, high)]
                elif low == high:
                    total += 1
                else:
                    total += high - low - any(is_of(word, sort) for word in words[low:high])
                if total >= least:
                    break
            least = min(least, total)
    return least


def plain_healings(text, most):
    """The least number of deeds, and all healings with so many, by a search through all lists of deeds."""
    words = [token for token, _ in tokens(text)]
    for many in range(most + 1):
        found = []
        waiting = [(0, many, [], [])]
        while waiting:
            at, left, deeds, out = waiting.pop()
            if at == len(words) and left == 0:
                if is_built(" ".join(out)):
                    found.append(deeds)
                continue
            if left:
                waiting.extend((at, left - 1, deeds + [(at, "put", token)], out + [token]) for token in TOKENS)
            if at < len(words):
                waiting.append((at + 1, left, deeds, out + [words[at]]))
                if left:
                    waiting.append((at + 1, left - 1, deeds + [(at, "drop", "")], out))
                    waiting.extend((at + 1, left - 1, deeds + [(at, "swap", token)], out + [token])
                                   for token in TOKENS if token != words[at])
        if found:
            return many, sorted(found)


BUILT = ["x", "f(x)(y).a", "fn x -> {a = x, b = T(1[m s^-2])}", "match x {A({a = _}) -> 1; _ -> @m(x, 2)}", "3[m]",
         "rec f x = {r with a = 1 < 2} in (f : {a : own('a, num['m^-1]) | 'r} -> <A : {}, B : < | 'v>>)", "fail w", "@m()"]


class Deeds(unittest.TestCase):
    def test_examples(self):
        self.assertEqual(
            [distance("f(x"), len(healings("f(x")), healings("f(x")[0], healings("f(x")[-1], heal("let x = 3 x")],
            [1, 7, [(1, "swap", "*")], [(3, "put", ")")], "let x = 3 in x"])
        self.assertEqual(
            [healings(""), is_healing("f(x", [(0, "drop", ""), (1, "drop", "")]), healed("f(x", [(0, "put", "("), (1, "drop", "")])],
            [[[(0, "put", "1")], [(0, "put", "T")], [(0, "put", "x")]], True, "( f x"])
        table = floors("f(x")
        self.assertEqual([table[("tree", 0, 3)], table[("pattern", 0, 1)], table[("kind", 1, 2)], are_floors("f(x", table)],
                         [1, 0, 1, True])
        self.assertEqual([heal_right(Book(), "fn s -> 3[m] + 4[s"), heal_right(Book(), "3[m] + 2[s")],
                         ["fn s -> 3 [ m ] + 4 * s", None])

    def test_healed(self):
        text = " f(x )"
        self.assertEqual(healed(text, []), "f ( x )")
        self.assertEqual(healed(text=text, deeds=()), "f ( x )")
        self.assertEqual(healed(text, [(4, "put", "+"), (4, "put", "1")]), "f ( x ) + 1")
        self.assertEqual(healed(text, [(0, "put", "fn"), (0, "put", "x"), (0, "put", "->"), (0, "swap", "x")]), "fn x -> x ( x )")
        self.assertEqual(healed(text, [(1, "drop", ""), (2, "put", "."), (3, "drop", "")]), "f . x")
        self.assertEqual(healed("", [(0, "put", "1")]), "1")
        self.assertEqual(healed("x", [(0, "drop", "")]), "")
        for token in TOKENS:
            self.assertEqual(healed("", [(0, "put", token)]), token)

    def test_values_that_are_no_deeds(self):
        for value in [None, 1, True, "", {}, (0, "put", "x"), [None], [()], [(0, "put")], [(0, "put", "x", 1)], [[0, "put", "x"]],
                      [("0", "put", "x")], [(True, "put", "x")], [(False, "drop", "")], [(-1, "put", "x")], [(5, "put", "x")],
                      [(4, "drop", "")], [(4, "swap", "x")], [(0, "drop", "x")], [(0, "drop", None)], [(0, "drop", "f")],
                      [(0, "swap", "f")], [(1, "swap", "(")], [(2, "swap", "x")], [(0, "put", "y")], [(0, "put", "'b")],
                      [(0, "put", "2")], [(0, "put", "")], [(0, "put", "A")], [(0, "put", "$x")], [(0, "put", "--")], [(0, "put", "()")],
                      [(0, "put", 1)], [(0, "move", "x")], [(0, 1, "x")], [(1, "put", "x"), (0, "put", "x")], [(0, ["put"], "x")],
                      [(0, "drop", ""), (0, "put", "x")], [(0, "drop", ""), (0, "swap", "x")], [(0, "swap", "x"), (0, "drop", "")],
                      [(0, "drop", ""), (0, "drop", "")], [(0, "put", "x"), Ratio(1)], [(Ratio(0), "put", "x")], [(0, "put", "?")]]:
            with self.assertRaises(BadDeeds) as caught:
                healed("f(x)", value)
            self.assertIs(caught.exception.given, value)
            self.assertIs(is_healing("f(x)", value), False)

    def test_healings_of_any_length(self):
        self.assertIs(is_healing("f(x)", []), True)
        self.assertIs(is_healing("f(x", []), False)
        self.assertIs(is_healing("f(x", [(3, "put", ")")]), True)
        self.assertIs(is_healing("f(x", [(0, "put", "("), (3, "put", ")"), (3, "put", ")")]), True)
        self.assertIs(is_healing(value=((3, "put", ")"),), text="f(x"), True)
        self.assertIs(is_healing("f(x", [(0, "put", "("), (3, "put", ")")]), False)
        self.assertIs(is_healing("f(x", [(3, "put", ")"), (0, "put", "(")]), False)
        self.assertIs(is_healing("1 2 3", [(0, "drop", ""), (1, "drop", "")]), True)

    def test_wrong_signs_and_long_texts(self):
        long = "x " * 25
        for call in [lambda text: healed(text, 1), lambda text: is_healing(text, 1), distance, heal, healings, floors,
                     lambda text: are_floors(text, 1), lambda text: heal_right(Book(), text)]:
            with self.assertRaises(BadText) as caught:
                call("f(x ? ")
            self.assertEqual(caught.exception.at, 4)
            with self.assertRaises(BadText) as caught:
                call(long + "#")
            self.assertEqual(caught.exception.at, 50)
            with self.assertRaises(TooMany) as caught:
                call(long)
            self.assertEqual(caught.exception.count, 25)
        text = " + ".join(["x"] * 12) + " +"
        self.assertEqual(distance(text), 1)
        self.assertTrue(is_built(heal(text)))
        self.assertEqual(len(tokens(text)), 24)


class Distances(unittest.TestCase):
    def test_built_texts(self):
        for text in BUILT:
            words = [token for token, _ in tokens(text)]
            if len(words) <= 24:
                self.assertEqual([distance(text), heal(text), healings(text)], [0, " ".join(words), [[]]], text)

    def test_all_healings_against_a_search(self):
        for text in ["", "(", "f(x", "1 2", "fn", "->", "x x", "T(", "{a}", "x :", "@m(", "3[", "1 [ m", "match x", "fail", "fn x", "'a",
                     "{| 'r}", "1[m^0]", "@x1()", "0[m", "_", "= =", "x.1", "{a = 1,}", "<"]:
            many, expected = plain_healings(text, 2)
            self.assertEqual(distance(text), many, text)
            if len(expected) > 300:
                with self.assertRaises(TooMany) as caught:
                    healings(text)
                self.assertEqual(caught.exception.count, 300)
            else:
                self.assertEqual(healings(text), expected, text)
            self.assertIn(heal(text), [healed(text, deeds) for deeds in expected])

    def test_several_wrong_tokens(self):
        for text, many in [("let x = 3 x)", 2), ("fn -> x", 1), ("match x A -> 1 }", 1), ("match x A -> 1", 2), ("} } {", 2),
                           ("{a = 1 b = 2}", 1), ("(x : {a num})", 1), ("f(x))", 1), ("1[m ^ s]", 1), ("let let let", 3)]:
            self.assertEqual(distance(text), many, text)
            self.assertTrue(is_built(heal(text)))
            wide = "  ".join(token for token, _ in tokens(text)) + " "
            self.assertEqual([distance(wide), heal(wide)], [many, heal(text)])

    def test_one_deed_changes_the_distance_by_one_at_most(self):
        text = "f ( x . 1"
        for deeds in [[(at, "drop", "")] for at in range(5)] + [[(at, "put", token)] for at in range(6) for token in "( x fn".split()]:
            self.assertLessEqual(abs(distance(healed(text, deeds)) - distance(text)), 1)

    def test_order_and_number(self):
        found = healings("1 2")
        self.assertEqual(found, sorted(found))
        self.assertEqual(len(found), len({tuple(deeds) for deeds in found}))
        self.assertIn([(1, "put", "+")], found)
        with self.assertRaises(TooMany) as caught:
            healings("= = = =")
        self.assertEqual(caught.exception.count, 300)
        self.assertTrue(all(is_healing("1 2", deeds) for deeds in found))
        found[0].append("more")
        self.assertNotEqual(healings("1 2"), found)
        self.assertEqual(healings("f(x")[3][0][0], 1)

    def test_several_put_in_at_one_number(self):
        found = healings("in")
        self.assertEqual(distance("in"), 1)
        self.assertEqual(found, [[(0, "swap", "1")], [(0, "swap", "T")], [(0, "swap", "x")]])
        found = healings("let y = 1")
        self.assertEqual([len(deeds) for deeds in found], [2] * len(found))
        self.assertIn([(4, "put", "in"), (4, "put", "x")], found)


class Floors(unittest.TestCase):
    def test_against_the_rows(self):
        for text in ["", "(", "f x", "1 [ m", "T ( _", "'a ^ 2", "num ->", "x1", "0", "let x", "| }", "{ a :"]:
            words = [token for token, _ in tokens(text)]
            table = floors(text)
            spans = [(begin, end) for begin in range(len(words) + 1) for end in range(begin, len(words) + 1)]
            self.assertEqual(len(table), 12 * len(spans))
            for form in ROWS:
                for begin, end in spans:
                    self.assertEqual(plain_need(table, words, form, begin, end), table[(form, begin, end)], (text, form, begin, end))
            self.assertEqual(table[("tree", 0, len(words))], distance(text))
            self.assertIs(are_floors(text, table), True)

    def test_lower_tables(self):
        text = "f(x"
        table = floors(text)
        self.assertTrue(are_floors(text, {key: 0 for key in table}))
        for key in table:
            if table[key] > 0:
                self.assertFalse(are_floors(text, {**{key: 0 for key in table}, key: 100}))
            self.assertFalse(are_floors(text, {**table, key: table[key] + 1}))
            for value in [-1, True, False, None, "0", Ratio(0), [0]]:
                self.assertFalse(are_floors(text, {**table, key: value}))
            left = dict(table)
            del left[key]
            self.assertFalse(are_floors(text, left))
            self.assertFalse(are_floors(text, {**left, "more": 0}))
            self.assertFalse(are_floors(text, {**left, (key[0], key[1], key[2], 0): 0}))

    def test_tables_that_lean_on_lower_numbers(self):
        text = "1 2"
        table = floors(text)
        low = dict(table)
        low[("product", 1, 2)] = 0
        low[("sum", 0, 1)] = 0
        self.assertTrue(are_floors(text, low))
        low[("sum", 0, 2)] = 1
        self.assertTrue(are_floors(text, low))
        low = {key: 0 for key in table}
        low[("sum", 0, 2)] = 1
        self.assertFalse(are_floors(text, low))
        self.assertTrue(are_floors("m s", {**floors("m s"), ("measure", 0, 1): 0, ("measure", 1, 2): 0}))
        low = {**floors("m = s"), ("measure", 0, 1): 0, ("measure", 1, 3): 0, ("measure", 2, 3): 0}
        self.assertTrue(are_floors("m = s", low))

    def test_keys_with_truth_values(self):
        table = floors("x")
        self.assertTrue(are_floors("x", table))
        other = {(form, bool(begin) if begin else begin, end): value for (form, begin, end), value in table.items()}
        self.assertFalse(are_floors("x", other))
        other = {(form, begin, False if end == 0 else end): value for (form, begin, end), value in table.items()}
        self.assertFalse(are_floors("x", other))

    def test_any_value(self):
        for value in [None, True, 0, "", [], (), {}, Ratio(1), list(floors("x").items()), {("tree", 0, 0): 1}]:
            self.assertIs(are_floors("x", value), False)
        self.assertTrue(are_floors(value=floors(""), text=""))

    def test_long_texts(self):
        text = "fn x -> match x {A(y) -> y; B -> 1 } + 2 3 ["
        table = floors(text)
        self.assertTrue(are_floors(text, table))
        self.assertEqual(table[("tree", 0, len(tokens(text)))], distance(text))
        for bad in ["} } { ] [ ] ) ( = - ; ; ; : | < > _ , . @ ^ ^ ->", "in " * 24, "( " * 24, "= x " * 12]:
            self.assertTrue(is_built(heal(bad)))
            self.assertEqual(floors(bad)[("tree", 0, 24)], distance(bad))


class Right(unittest.TestCase):
    def assert_first(self, book, text):
        def right(healed_text):
            return heal_right(book, healed_text) is not None

        found = heal_right(book, text)
        texts = [healed(text, deeds) for deeds in healings(text)]
        if found is None:
            self.assertFalse(any(right(one) for one in texts))
        else:
            self.assertTrue(right(found))
            self.assertFalse(any(right(one) for one in texts[:texts.index(found)]))

    def test_built_texts(self):
        self.assertEqual(heal_right(Book(), "fn y->y"), "fn y -> y")
        self.assertIsNone(heal_right(Book(), "1(2)"))
        self.assertIsNone(heal_right(Book(), "y"))
        self.assertIsNone(heal_right(Book(), "{a = 1, a = 2}"))
        self.assertIsNone(heal_right(Book(), "@m()"))
        self.assertIsNone(heal_right(Book(), "(1 : own)"))
        self.assertEqual(heal_right(book=Book("def y = 1"), text="y"), "y")

    def test_the_stand_in(self):
        self.assertEqual(heal_right(Book(), "x"), "x")
        self.assertEqual(heal_right(Book(), "x(x + 1)"), "x ( x + 1 )")
        self.assertEqual(heal_right(Book(), "1 +"), "1")
        self.assertIsNone(heal_right(Book("def x = 1"), "x(1)"))
        self.assertEqual(heal_right(Book("def x = fn y -> y"), "x(1)"), "x ( 1 )")
        self.assertIsNone(heal_right(Book(), "fn x -> x(x)"))
        self.assertEqual(heal_right(Book(), "{a = x.b, b = x(1)}"), "{ a = x . b , b = x ( 1 ) }")
        self.assertIsNone(heal_right(Book("macro m($y) = $y"), "@m(x)"))
        self.assertEqual(heal_right(Book("macro m(y) = y"), "@m(x)"), "@ m ( x )")
        self.assertIsNone(heal_right(Book("def d = x(1)"), "d"))

    def test_the_first_right_one(self):
        for text in ["fn s -> 3[m] + 4[s", "f(1", "fn f -> f(1", "1 T", "{a = 1", "3[m] 2[s]", "let y = 3 y"]:
            self.assert_first(Book(), text)
        self.assert_first(Book("def f = fn y -> y"), "f(1")
        with self.assertRaises(TooMany):
            heal_right(Book(), "= = = =")


if __name__ == "__main__":
    unittest.main()
