import random
import unittest
from unittest import mock

from widestkind import equations as equations_module
from widestkind import lattices
from widestkind.errors import BadText
from widestkind.measures import (fill_measure, is_measure, is_measure_paper, is_solution, measure_paper, measure_text,
                                 power, read_measure, solve_measures, times)
from widestkind.ratios import Ratio


def made(table):
    return tuple(sorted((name, number) for name, number in table.items() if number))


class Measures(unittest.TestCase):
    def test_examples(self):
        speed = read_measure("m s^-1")
        self.assertEqual([speed, times(speed, (("s", 1),)), measure_text(power(speed, -2))],
                         [(("m", 1), ("s", -1)), (("m", 1),), "m^-2 s^2"])
        third = [(("'a", 2), ("m", 3))]
        self.assertEqual([solve_measures([(("'a", 2), ("m", 4))]), solve_measures(third),
                          is_measure_paper(third, [Ratio(1, 2)])],
                         [{"'a": (("m", -2),)}, None, True])

    def test_what_is_a_measure(self):
        for value in [(), (("m", 1),), (("'a", -2), ("'b1", 3), ("m", 10 ** 29), ("m1", 1)), (("abcdef999", 1),),
                      (("'zzzzzz", 1),)]:
            self.assertIs(is_measure(value), True, value)
        wrong = [None, True, 0, "m", [], [("m", 1)], (["m", 1],), (("m",),), (("m", 1, 1),), (("m", 0),),
                 (("m", True),), (("m", "1"),), (("m", Ratio(1)),), (("s", 1), ("m", 1)), (("m", 1), ("m", 2)),
                 (("m", 1), ("'a", 1)), (("fn", 1),), (("'fn", 1),), (("", 1),), (("'", 1),), (("M", 1),),
                 (("m0", 1),), (("m1000", 1),), (("abcdefg", 1),), ((1, 1),), ((None, 1),), (("m ", 1),), {"m": 1},
                 (("m", 1), ()), (("''a", 1),), (("m\n", 1),), ("m", 1), (([], 1),), Ratio(1)]
        for value in wrong:
            self.assertIs(is_measure(value), False, value)

    def test_products_and_powers(self):
        one = (("'a", 1), ("m", 2))
        self.assertEqual(times(one, (("'a", -1), ("m", 1), ("s", 1))), (("m", 3), ("s", 1)))
        self.assertEqual(times(one, ()), one)
        self.assertEqual(times(one=one, other=power(one, -1)), ())
        self.assertEqual([power(one, 0), power(one, 1), power(one, 3), power(measure=one, n=-1)],
                         [(), one, (("'a", 3), ("m", 6)), (("'a", -1), ("m", -2))])

    def test_texts_there_and_back(self):
        for text in ["", "m", "'a", "'a 'b m", "m^2 s^-1", "m^10 m1^-10 ma", "'a^-3 m^" + "9" * 29, "m^11 n"]:
            found = read_measure(text)
            self.assertTrue(is_measure(found))
            self.assertEqual(measure_text(found), text)

    def test_bad_texts(self):
        wrong = {
            " ": 0, "m ": 2, "m  s": 2, " m": 0, "m^": 2, "m^0": 2, "m^1": 3, "m^1 s": 3, "m^-": 3, "m^-0": 3,
            "m^01": 2, "m^2^3": 3, "m^2s": 3, "m^--1": 3, "m^+1": 2, "s m": 2, "m m": 3, "m m ": 3, "m m^2": 3,
            "m 'a": 2, "ab aa": 4, "fn": 2, "fn m": 2, "fn^2": 2, "'num": 4, "match": 5, "m0": 1, "m1000": 4,
            "abcdefg": 6, "M": 0, "m\n": 1, "''": 1, "'1": 1, "zzzzzz999 ": 9, "zzzzzz999 a": 9,
            "zzzzzz99 zzzzzz99": 17, "zzzzzz99 zzzzzz98": 16, "zzzzzz99 zzzzzz1": 15, "'": 1, "'a '": 4, "m1 m": 4,
            "m^2 ": 4, "m,s": 1, "b b": 3, "b a": 2, "3": 0, "m^12 s^1": 8, "$": 0,
        }
        for text, at in wrong.items():
            with self.assertRaises(BadText, msg=text) as caught:
                read_measure(text)
            self.assertEqual(caught.exception.at, at, text)

    def test_fillings_all_at_once(self):
        given = (("'a", 2), ("'b", -1), ("m", 1))
        table = {"'a": (("'b", 1), ("m", 1)), "'b": (("'a", 1), ("m", 3)), "m": (("s", 1),), "'c": (("s", 9),)}
        self.assertEqual(fill_measure(given, table), (("'a", -1), ("'b", 2)))
        self.assertEqual(fill_measure(measure=given, table={}), given)
        self.assertEqual(fill_measure(given, {"'b": ()}), (("'a", 2), ("m", 1)))
        self.assertEqual(table["'a"], (("'b", 1), ("m", 1)))


class Equations(unittest.TestCase):
    def comes_of(self, solved, other, fixed):
        """Whether a solution that has only fixed names is another one with its names filled."""
        equations = [times(solved[name], power(told, -1)) for name, told in other.items()]
        return solve_measures(equations, fixed=fixed) is not None

    def check(self, equations, fixed=()):
        before = [tuple(one) for one in equations]
        solved = solve_measures(equations, fixed=fixed)
        paper = measure_paper(equations, fixed=fixed)
        self.assertEqual(list(equations), before)
        self.assertEqual(solved is None, paper is not None)
        names = {f for one in equations for f, _ in one if f[0] == "'" and f not in fixed}
        if paper is None:
            self.assertEqual(set(solved), names)
            self.assertTrue(all(is_measure(one) for one in solved.values()))
            self.assertIs(is_solution(equations, solved, fixed=fixed), True)
            for one in equations:
                self.assertEqual(fill_measure(one, solved), ())
        else:
            self.assertTrue(all(isinstance(one, Ratio) for one in paper))
            self.assertIs(is_measure_paper(equations, paper, fixed=fixed), True)
            self.assertFalse(is_solution(equations, {name: () for name in names}, fixed=fixed))
        self.assertEqual(solve_measures(tuple(equations), fixed=tuple(fixed)), solved)
        return solved

    def test_with_and_without_solutions(self):
        self.assertEqual(self.check([]), {})
        self.assertEqual(self.check([()]), {})
        self.assertIsNone(self.check([(("m", 1),)]))
        self.assertEqual(self.check([(("'a", 1), ("m", 1))]), {"'a": (("m", -1),)})
        self.assertIsNone(self.check([(("'a", 2), ("'b", 4), ("m", 3))]))
        self.assertIsNotNone(self.check([(("'a", 2), ("'b", 3), ("m", 1))]))
        self.assertIsNone(self.check([(("'a", 1), ("m", 1)), (("'a", 1), ("m", 2))]))
        self.assertIsNone(self.check([(("'a", 1), ("'b", 1)), (("'a", 1), ("'b", -1), ("m", 1))]))
        self.assertEqual(self.check([(("'a", 3),)]), {"'a": ()})

    def test_fixed_names(self):
        given = [(("'a", 1), ("'b", 2))]
        self.assertEqual(self.check(given, ["'b"]), {"'a": (("'b", -2),)})
        self.assertIsNone(self.check(given, ["'a"]))
        self.assertIsNone(self.check(given, ["'a", "'b"]))
        self.assertEqual(self.check([()], ["'a"]), {})
        self.assertIs(is_measure_paper(given, [Ratio(1, 2)], fixed=["'a"]), True)
        self.assertIs(is_measure_paper(given, [Ratio(1, 2)]), False)
        self.assertIs(is_solution(given, {"'a": (("'b", -2),)}, fixed=("'b",)), True)
        self.assertIs(is_solution(given, {"'a": (("'b", -2),), "'b": (("'b", 1),)}, fixed=("'b",)), False)

    def test_all_solutions_come_of_the_one(self):
        self.check_at_random(11, 300)

    def test_the_same_without_putting_out_equations_first(self):
        for few in (0, 2):
            with mock.patch.object(equations_module, "FEW", few), mock.patch.object(lattices, "FEW", 0):
                self.check_at_random(12 + few, 200)

    def test_dense_equations(self):
        random_source = random.Random(5)
        names = ["'a%d" % n for n in range(1, 41)]
        rows = [{name: random_source.randint(-9, 9) for name in names} for _ in range(39)]
        planted = {name: random_source.randint(-5, 5) for name in names}
        right = [made({**row, "m": -sum(row[name] * planted[name] for name in names)}) for row in rows]
        self.assertIsNotNone(self.check(right))
        total = {name: rows[0][name] + rows[1][name] for name in names}
        sums = times(right[0], right[1])
        self.assertEqual({name: number for name, number in sums if name != "m"},
                         {name: number for name, number in total.items() if number})
        self.assertIsNotNone(self.check(right + [sums]))
        self.assertIsNone(self.check(right + [times(sums, (("m", 1),))]))
        self.assertIsNone(self.check(right[:38] + [times(power(right[38], 6), times(right[0], (("m", 1),)))] * 2
                                     + [times(right[0], (("s", 1),))] + [right[0]]))
        even = [made({**{name: 2 * number for name, number in row.items()}, "m": 1}) for row in rows]
        self.assertIsNone(self.check(even))
        mixed = right[:30] + [times(power(right[30], 4), times(power(right[31], 6), (("m", 1),)))]
        self.assertIsNone(self.check(mixed + [power(right[31], 2), times(power(right[30], 2), power(right[2], 2))]))

    def check_at_random(self, seed, many):
        random_source = random.Random(seed)
        for _ in range(many):
            names = ["'a", "'b", "'c", "'m1"][:random_source.randint(1, 4)]
            fixed = ["'f"][:random_source.randint(0, 1)]
            equations = []
            for _ in range(random_source.randint(1, 3)):
                row = {name: random_source.randint(-4, 4) for name in names}
                row.update({name: random_source.randint(-2, 2) for name in ["m"] + fixed})
                equations.append(made(row))
            solved = self.check(equations, fixed)
            if solved is None:
                continue
            self.assertFalse(set(fixed) & {f for f in solved})
            for _ in range(5):
                fill = {}
                for told in solved.values():
                    for factor, _ in told:
                        if factor[0] == "'" and factor not in fixed:
                            fill[factor] = made({"q": random_source.randint(-2, 2), "'z": random_source.randint(-1, 1)})
                other = {name: fill_measure(told, fill) for name, told in solved.items()}
                self.assertTrue(is_solution(equations, other, fixed=fixed))
            for _ in range(20):
                other = {name: made({"m": random_source.randint(-2, 2), "'f": random_source.randint(-1, 1)})
                         for name in solved}
                if is_solution(equations, other, fixed=["'f"]):
                    self.assertTrue(self.comes_of(solved, other, ["'f"]))

    def test_what_is_a_solution(self):
        given = [(("'a", 1), ("'b", -1), ("m", 1))]
        right = {"'a": (), "'b": (("m", 1),)}
        self.assertIs(is_solution(given, right), True)
        self.assertIs(is_solution(equations=given, value={"'b": (("'b", 1), ("m", 1)), "'a": (("'b", 1),)}), True)
        wrong = [None, True, 3, "x", [], [("'a", ())], {}, {"'a": ()}, {**right, "'c": ()}, {**right, 1: ()},
                 {"'a": (), "'b": [("m", 1)]}, {"'a": (), "'b": (("m", True),)}, {"'a": (), "'b": None},
                 {"'a": (), "'b": ()}, {"a": (), "'b": (("m", 1),)}, {"'a": (), True: (("m", 1),)}, Ratio(1)]
        for value in wrong:
            self.assertIs(is_solution(given, value), False, value)
        self.assertIs(is_solution([], {}), True)
        self.assertIs(is_solution([], None), False)

    def test_what_is_a_paper(self):
        given = [(("'a", 2), ("m", 3)), (("'a", 4), ("s", 1))]
        for value in [[Ratio(1, 2), 0], (Ratio(1, 2), Ratio(0)), [Ratio(3, 2), 7], [0, Ratio(1, 4)],
                      [Ratio(1), Ratio(1, 2)], [Ratio(1, 4), Ratio(1, 8)]]:
            self.assertIs(is_measure_paper(given, value), True, value)
        wrong = [None, True, 5, "ab", {}, [], [Ratio(1, 2)], [Ratio(1, 2), 0, 0], [Ratio(1, 2), True],
                 [Ratio(1, 2), "0"], [Ratio(1, 2), None], [1, 2], [Ratio(1, 3), 0], [Ratio(1, 4), 0], {0: 1, 1: 1}]
        for value in wrong:
            self.assertIs(is_measure_paper(given, value), False, value)
        self.assertIs(is_measure_paper([], []), False)
        self.assertIsNone(measure_paper([]))

    def test_limits(self):
        chain = [made({"'a%d" % n: 2, "'a%d" % (n + 1): -3}) for n in range(1, 600)]
        self.assertIsNotNone(self.check(chain))
        self.assertIsNone(self.check(chain + [(("'a600", 1), ("m", 1))]))
        self.assertIsNotNone(self.check([made({"'a%d" % n: 10 ** 29 + n, "m": 3 * (10 ** 29 + n)})
                                         for n in range(1, 601)]))
        ring = [made({"'a%d" % n: 1, "'a%d" % (n % 600 + 1): 1, "m": 1}) for n in range(1, 601)]
        self.assertIsNone(self.check(ring[:599] + [made({"'a600": 1, "'a2": 1, "m": 1})]))
        random_source = random.Random(2)
        many = []
        for _ in range(600):
            row = {"'a%d" % random_source.randint(1, 600): random_source.randint(-3, 3) for _ in range(3)}
            many.append(made({**row, "m": sum(row.values())}))
        self.assertIsNotNone(self.check(many))
        self.assertIsNone(self.check(many + [made({"'a1": 1}), made({"'a1": 1, "s": 1})]))


if __name__ == "__main__":
    unittest.main()
