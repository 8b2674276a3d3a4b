import random
import unittest
from unittest import mock

from widestkind import lattices
from widestkind.fillings import common, common_all, filling, is_filling, told, told_all
from widestkind.kinds import are_kinds, fill, is_kind, kind_text, names_in, read_kind


def texts(kinds):
    return None if kinds is None else [kind_text(kind) for kind in kinds]


def kinds_of(*given):
    return [read_kind(text) for text in given]


def told_text(text):
    return kind_text(told(read_kind(text)))


def common_texts(one, other):
    return texts(common(kinds_of(*one), kinds_of(*other)))


def measures(kinds):
    found = []
    for kind in kinds:
        if kind[0] == "num":
            found.append(dict(kind[1]))
        elif kind[0] == "fn":
            found.extend(measures(kind[1:]))
        elif kind[0] in ("record", "variant"):
            found.extend(measures([one for _, one in kind[1]]))
        elif kind[0] == "own":
            found.extend(measures(kind[2]))
    return found


class Told(unittest.TestCase):
    def test_examples(self):
        found = [told_text(text) for text in ["'x -> 'y -> 'x", "num['b^2 m^3] -> num['b]",
                                              "num['x 'y] -> num['x 'y^-1]"]]
        self.assertEqual(found, ["'a1 -> 'a2 -> 'a1", "num['m1^2 m] -> num['m1 m^-1]", "num['m1] -> num['m1 'm2^2]"])

    def test_names_in_the_order_of_the_texts(self):
        self.assertEqual(told_text("{b : 'z, a : 'y -> {| 'q} | 'r} -> <A : 'z | 's>"),
                         "{a : 'a1 -> {| 'r1}, b : 'a2 | 'r2} -> <A : 'a2 | 'r3>")
        self.assertEqual(texts(told_all(kinds_of("'c -> 'b", "'b -> 'a", "{| 'b1}"))),
                         ["'a1 -> 'a2", "'a2 -> 'a3", "{| 'r1}"])
        self.assertEqual(told_all([]), [])
        self.assertEqual(told_all(tuple(kinds_of("'c"))), kinds_of("'a1"))

    def test_measures(self):
        for given, wanted in {"num['x]": "num['m1]", "num['x^-2]": "num['m1^2]", "num['x m^5]": "num['m1]",
                              "num['x^2 m^5]": "num['m1^2 m]", "num['x^2 m^-1]": "num['m1^2 m]", "num[m^5]": "num[m^5]",
                              "num['x 'y^7 'z]": "num['m1]", "num['x^4 'y^6]": "num['m1^2]",
                              "num -> num['z] -> num['y]": "num -> num['m1] -> num['m2]",
                              "num['a] -> num['a^3 'b^2]": "num['m1] -> num['m1 'm2^2]",
                              "num['a^2] -> num['a^3]": "num['m1^2] -> num['m1^3]",
                              "num['a^2 m] -> num['a]": "num['m1^2 m] -> num['m1]",
                              "num['a] -> num['a^5 'b^5 s^7]": "num['m1] -> num['m2^5 s^2]"}.items():
            self.assertEqual(told_text(given), wanted, given)

    def test_alike_kinds_are_told_alike(self):
        alike = ["num['a 'b] -> num['b^2] -> 'k -> {a : 'l | 'q}", "num['a 'b] -> num['a^2] -> 'l -> {a : 'k | 'r}",
                 "num['a^-1 'b] -> num['b^-2] -> 'x -> {a : 'y | 'x1}", "num['a 'b^3] -> num['b^2] -> 'k -> {a : 'l | 'q}",
                 "num['a 'b m] -> num['b^2 s^2] -> 'k -> {a : 'l | 'q}", "num['b] -> num['a^2] -> 'k -> {a : 'l | 'q}"]
        for text in alike:
            self.assertEqual(told_text(text), "num['m1] -> num['m2^2] -> 'a1 -> {a : 'a2 | 'r1}")
        for text in ["num['a 'b] -> num['b^3] -> 'k -> {a : 'l | 'q}", "num['a 'b] -> num['b^2] -> 'k -> {a : 'k | 'q}",
                     "num['a 'b] -> num['b^2] -> 'k -> {a : 'l}", "num['a 'b] -> num['b^2 m] -> 'k -> {a : 'l | 'q}"]:
            self.assertNotEqual(told_text(text), told_text(alike[0]))

    def turned(self, kinds, source):
        """Kinds alike to kinds, by exchanges of names and by steps of one measure name at a time."""
        sorts = names_in(kinds)
        for _ in range(6):
            if sorts[3]:
                one, other = source.choice(sorts[3]), source.choice(sorts[3] + ["m", "s"])
                number = source.choice([-2, -1, 1, 2])
                table = {one: ((one, -1),) if one == other else tuple(sorted(((one, 1), (other, number))))}
                kinds = [fill(kind, table) for kind in kinds]
        table = {}
        for sort, make in zip(sorts, [lambda n: ("name", n), lambda n: ((), n), lambda n: ((), n), lambda n: ((n, 1),)]):
            others = source.sample(sort, len(sort))
            table.update({name: make(other) for name, other in zip(sort, others)})
        return [fill(kind, table) for kind in kinds]

    def test_turning_at_random(self):
        source = random.Random(4)
        for _ in range(300):
            nums = []
            for _ in range(source.randint(1, 5)):
                factors = source.sample(["'a", "'b", "'c", "m", "s"], source.randint(1, 4))
                nums.append(("num", tuple((name, source.choice([-3, -2, -1, 1, 2, 3])) for name in sorted(factors))))
            kinds = [("fn", ("name", source.choice(["'x", "'y"])), num) for num in nums]
            kinds.append(read_kind("{a : 'x, b : <| 'q> | 'r} -> {| 'p}"))
            found = told_all(kinds)
            self.assertTrue(are_kinds(found))
            self.assertEqual(told_all(found), found)
            self.assertEqual(told_all(self.turned(kinds, source)), found)
            self.check_columns(measures(found))
            with mock.patch.object(lattices, "FEW", 0):
                self.assertEqual(told_all(self.turned(kinds, source)), found)

    def test_many_names(self):
        source = random.Random(8)
        names = ["'a%d" % n for n in range(1, 41)]
        rows = [{name: source.randint(-9, 9) for name in names + ["m", "s"]} for _ in range(40)]
        kinds = [("num", tuple(sorted((name, number) for name, number in row.items() if number))) for row in rows]
        found = told_all(kinds)
        self.check_columns(measures(found))
        self.assertEqual(told_all(found), found)
        self.assertEqual(told_all(self.turned(kinds, source)), found)
        self.assertEqual(common(kinds, found), found)

    def check_columns(self, rows):
        names = sorted({name for row in rows for name in row if name[0] == "'"}, key=lambda name: int(name[2:]))
        bases = {name for row in rows for name in row if name[0] != "'"}
        self.assertEqual(names, ["'m%d" % (n + 1) for n in range(len(names))])
        steps = [min(at for at, row in enumerate(rows) if name in row) for name in names]
        self.assertEqual(steps, sorted(set(steps)))
        for at, (name, step) in enumerate(zip(names, steps)):
            for earlier in names[:at] + sorted(bases):
                self.assertTrue(0 <= rows[step].get(earlier, 0) < rows[step][name])


class Fillings(unittest.TestCase):
    def check(self, text, other, wanted=True):
        kind, pattern = read_kind(text), read_kind(other)
        found = filling(kind, pattern)
        self.assertIs(is_filling(kind, pattern), wanted, (text, other))
        self.assertIs(found is not None, wanted, (text, other))
        if wanted:
            self.assertEqual(set(found), set().union(*names_in([pattern])))
            self.assertEqual(fill(pattern, found), kind)
        return found

    def test_examples(self):
        self.check("num[s^4]", "num['m1^2]")
        self.check("num[s^3]", "num['m1^2]", False)

    def test_kinds(self):
        self.check("num", "'a")
        self.check("'a", "num", False)
        self.check("'b -> 'b", "'a -> 'b")
        self.check("'a -> 'b", "'b -> 'b", False)
        self.check("'a -> 'b", "'b -> 'a")
        self.assertEqual(self.check("('a -> num) -> 'a -> num", "'a -> 'a"), {"'a": read_kind("'a -> num")})
        self.check("('a -> num) -> 'b -> num", "'a -> 'a", False)
        self.check("f(num, 'a)", "f('a, 'b)")
        self.check("f(num)", "f('a, 'b)", False)
        self.check("g(num)", "f('a)", False)
        self.check("f", "{}", False)
        self.check("<>", "{}", False)
        self.check("num -> num", "num", False)

    def test_rows(self):
        found = self.check("{a : num, b : 'x | 'q} -> <T : {}>", "{b : 'y | 'r} -> <| 's>")
        self.assertEqual(found, {"'y": ("name", "'x"), "'r": ((("a", ("num", ())),), "'q"),
                                 "'s": ((("T", ("record", (), None)),), None)})
        self.check("{a : num}", "{a : num | 'r}")
        self.check("{}", "{a : num | 'r}", False)
        self.check("{a : num | 'r}", "{a : num}", False)
        self.check("{a : num, b : num}", "{a : num}", False)
        self.check("{a : num}", "{a : num, b : num}", False)
        self.check("{| 'q}", "{| 'r}")
        self.check("<A : num | 'q>", "{| 'r}", False)
        self.check("{a : num, b : num} -> {a : {}, b : num}", "{a : 'x | 'r} -> {a : 'y | 'r}")
        self.check("{a : num, b : num} -> {a : {}, b : {}}", "{a : 'x | 'r} -> {a : 'y | 'r}", False)
        self.check("{a : num, b : num} -> {a : {}, c : num}", "{a : 'x | 'r} -> {a : 'y | 'r}", False)
        self.check("{a : num | 'q} -> {a : num | 'q}", "{a : 'x | 'r} -> {a : 'y | 'r}")
        self.check("{a : num | 'q} -> {a : num | 'p}", "{a : 'x | 'r} -> {a : 'y | 'r}", False)
        self.check("{a : num | 'q} -> {a : num}", "{a : 'x | 'r} -> {a : 'y | 'r}", False)

    def test_measures(self):
        self.check("num[m] -> num[m^2]", "num['x] -> num['x^2]")
        self.check("num[m] -> num[s^2]", "num['x] -> num['x^2]", False)
        self.check("num['x] -> num['y]", "num['y] -> num['x]")
        self.check("num['x] -> num['y]", "num['x] -> num['x]", False)
        self.check("num['x^2 m]", "num['x^2]", False)
        self.check("num['x^4 m^2]", "num['x^2]")
        self.check("num[m]", "num['x^2 'y^3]")
        self.check("num", "num['x 'y^-1 'z^4]")
        self.check("num['m1]", "num['m2 'm3]")
        self.check("num['m1^-15 m^16] -> num['m1^-1]", "num['m1^6 'm2^10 'm3^15] -> num['m3]")
        self.check("num['m1^-15 m^15] -> num['m1^-1]", "num['m1^6 'm2^10 'm3^15] -> num['m3]", False)
        self.check("num[m]", "num[s]", False)

    def test_alike_exactly_if_told_alike(self):
        given = ["num['x]", "num['x^2]", "num['x^2 m]", "num['x 'y]", "'a -> 'b", "'b -> 'a", "'a -> 'a", "{| 'r}",
                 "{a : 'x | 'r}", "num['x^2 m^3]", "num", "<| 'r>", "{| 'q}"]
        for one in given:
            for other in given:
                both = is_filling(read_kind(one), read_kind(other)) and is_filling(read_kind(other), read_kind(one))
                self.assertEqual(both, told_text(one) == told_text(other), (one, other))


class Common(unittest.TestCase):
    def check(self, one, other, wanted):
        self.assertEqual(common_texts(one, other), wanted)
        self.assertEqual(common_texts(other, one), wanted)
        if wanted is not None:
            whole = ("own", "f", tuple(kinds_of(*wanted)))
            for side in (one, other):
                self.assertTrue(is_filling(whole, ("own", "f", tuple(kinds_of(*side)))))

    def test_example(self):
        self.check(["{a : num | 'r}"], ["{b : 'x, c : 'x | 'q}"], ["{a : num, b : 'a1, c : 'a1 | 'r1}"])

    def test_kinds(self):
        self.check([], [], [])
        self.check(["'a"], ["'a"], ["'a1"])
        self.check(["'a -> num"], ["{} -> 'a"], ["{} -> num"])
        self.check(["'a -> 'a"], ["'b -> num"], ["num -> num"])
        self.check(["'a", "'a"], ["num", "{}"], None)
        self.check(["'a", "'b"], ["'b", "'b"], ["'a1", "'a1"])
        self.check(["'a", "'b", "'a -> 'b"], ["num", "{}", "'c"], ["num", "{}", "num -> {}"])
        self.check(["f('a, num)"], ["f({}, 'b)"], ["f({}, num)"])
        self.check(["f('a)"], ["f('a, 'b)"], None)
        self.check(["f('a)"], ["g('a)"], None)
        self.check(["num"], ["num -> num"], None)

    def test_rings(self):
        self.check(["'a -> 'a"], ["{a : 'b} -> 'b"], None)
        self.check(["'a", "'a"], ["'b", "'b -> num"], None)
        self.check(["{a : num | 'r}", "{a : num | 'r}"], ["{a : num, b : 'x | 'q}", "'x"], None)
        self.check(["'a", "'b", "'a", "'b"], ["'c", "'d", "f('d)", "f('c)"], None)

    def test_rows(self):
        self.check(["{a : num}"], ["{b : num | 'r}"], None)
        self.check(["{a : num, b : 'x}"], ["{b : num | 'r}"], ["{a : num, b : num}"])
        self.check(["{a : num | 'r}"], ["<A : num | 'r>"], None)
        self.check(["{| 'r} -> {| 'r}"], ["{a : 'x | 'q} -> {b : 'y | 'p}"],
                   ["{a : 'a1, b : 'a2 | 'r1} -> {a : 'a1, b : 'a2 | 'r1}"])
        self.check(["{a : 'x | 'r} -> {a : 'y | 'r}"], ["{a : num, b : num} -> {| 'q}"],
                   ["{a : num, b : num} -> {a : 'a1, b : num}"])
        self.check(["{a : 'x | 'r} -> {a : 'y | 'r}"], ["{a : num, b : num} -> {a : num, c : num | 'q}"], None)
        self.check(["<A : num | 'r>", "<A : num | 'r>"], ["<| 'q>", "<A : num>"], ["<A : num>", "<A : num>"])

    def test_measures(self):
        self.check(["num['x^2]"], ["num['y^3]"], ["num['m1^6]"])
        self.check(["num['x^2 m]"], ["num['y^3]"], ["num['m1^6 m^3]"])
        self.check(["num['x^2 m]"], ["num['y^4]"], None)
        self.check(["num['x]", "num['x]"], ["num[m]", "num[s]"], None)
        self.check(["num['x] -> num['x^2]"], ["'a -> num[m^2 s^4]"], ["num[m s^2] -> num[m^2 s^4]"])
        self.check(["num['x 'y]", "num['x 'y^-1]"], ["num", "num[m]"], None)
        self.check(["num['x 'y]", "num['x 'y^-1]"], ["num", "num[m^2]"], ["num", "num[m^2]"])

    def test_several_lists(self):
        self.assertEqual(texts(common_all([kinds_of("'c -> 'b")])), ["'a1 -> 'a2"])
        self.assertEqual(texts(common_all([kinds_of("'a -> num"), kinds_of("{} -> 'a")])), ["{} -> num"])
        three = (kinds_of("{a : 'x | 'r}"), kinds_of("{b : 'x | 'r}"), kinds_of("{c : 'x -> 'x | 'r}"))
        self.assertEqual(texts(common_all(lists=three)), ["{a : 'a1, b : 'a2, c : 'a3 -> 'a3 | 'r1}"])
        self.assertIsNone(common_all([kinds_of("'a"), kinds_of("num"), kinds_of("{}")]))
        self.assertIsNone(common_all([kinds_of("num['x^2]"), kinds_of("num['x^3]"), kinds_of("num[m^5]")]))
        self.assertEqual(common_all([kinds_of("num['x^2]"), kinds_of("num['x^3]"), kinds_of("num[m^12]")]),
                         kinds_of("num[m^12]"))

    def test_common_of_a_filling(self):
        source = random.Random(9)
        pieces = ["'a", "num['m^2 m]", "{a : 'b | 'r}", "<A : 'a | 's>", "num['m 'n]", "f('b, num)"]
        table = {"'a": read_kind("'z -> num"), "'b": read_kind("{}"), "'m": (("'k", 2), ("s", 1)), "'n": (),
                 "'r": ((("b", ("name", "'z")),), "'q"), "'s": ((), None)}
        for _ in range(200):
            kinds = [read_kind(source.choice(pieces)) for _ in range(3)]
            filled = [fill(kind, {n: table[n] for n in table if source.random() < 0.6}) for kind in kinds[:1]]
            self.assertEqual(common(kinds[:1], filled), told_all(filled))
            self.assertEqual(common(filled, kinds[:1]), told_all(filled))
            both = [fill(kind, table) for kind in kinds]
            self.assertEqual(common_all([both, kinds, kinds]), told_all(both))


class Limits(unittest.TestCase):
    def test_long_lists(self):
        one = [("name", "'a%d" % n) for n in range(1, 601)]
        other = [read_kind("{a : 'x%d -> num['m%d^2 'm%d] | 'r}" % (n, n, n % 600 + 1)) for n in range(1, 601)]
        found = common(one, other)
        self.assertEqual(found, told_all(other))
        self.assertEqual(told_all(found), found)
        self.assertTrue(are_kinds(found))
        self.assertIsNone(common(one[:1] * 600, kinds_of("num") * 599 + kinds_of("{}")))

    def test_deep_results(self):
        one, other = [], []
        for n in range(1, 300):
            one += [("name", "'x%d" % n)] * 2
            other += [("name", "'y%d" % n), ("record", (("a", ("name", "'y%d" % (n + 1))),), None)]
        found = common(one, other)
        self.assertTrue(is_kind(found[0]))
        self.assertEqual(kind_text(found[0]).count("a : "), 299)
        self.assertTrue(is_filling(found[0], other[1]))
        self.assertIsNone(common(one + one[:1], other + [("name", "'y300")]))


if __name__ == "__main__":
    unittest.main()
