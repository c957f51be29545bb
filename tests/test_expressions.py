"""format_tree, evaluate and simplified."""

import unittest

from farlanes.algebra import compose, conjugate, inverse
from farlanes.errors import BadLane, BadLanes, BadPlace, NoName, OtherLanes, TooWide
from farlanes.expressions import evaluate, format_tree, parse, simplified
from farlanes.maps import LaneMap, identity, lead, swap
from farlanes.travel import power
from tests.samples import FAR, numbers, raised, rich_maps, told, turned
from tests.trees import (
    MOST, TOKEN, drawn_names, drawn_tree, levels_of, nested, outcome, slow_index, slow_tree, slow_value, spaced,
    subtrees, tuples_in,
)

ALL_LANES = range(1, 7)
A, B, C = [("name", letter) for letter in "abc"]
IDENTITY = ("identity",)


def without_pair(tokens, at):
    """The tokens without the parenthesis at this index and the one that closes it."""
    depth, end = 1, at
    while depth:
        end += 1
        depth += (tokens[end] == "(") - (tokens[end] == ")")
    return tokens[:at] + tokens[at + 1:end] + tokens[end + 1:]


class Formatted(unittest.TestCase):
    def check(self, tree):
        text = format_tree(tree)
        tokens = TOKEN.findall(text)
        self.assertEqual(text, spaced(tokens))
        self.assertEqual(slow_tree(tokens), tree)
        if len([token for token in tokens if token in ("*", "@", "^", "(")]) <= 60:
            self.assertEqual(parse(text), tree)
        for at, token in enumerate(tokens):
            if token == "(":
                fewer = without_pair(tokens, at)
                self.assertTrue(slow_index(" ".join(fewer)) is not None or slow_tree(fewer) != tree, text)

    def test_some_trees(self):
        cases = {
            "a": A,
            "identity": IDENTITY,
            "lead 0 5": ("lead", 0, 5),
            "swap 0.1 2.3": ("swap", (0, 1), (2, 3)),
            "a * b * c": ("product", ("product", A, B), C),
            "a * (b * c)": ("product", A, ("product", B, C)),
            "a @ b @ c": ("conjugate", ("conjugate", A, B), C),
            "a @ (b @ c)": ("conjugate", A, ("conjugate", B, C)),
            "a * b @ c": ("product", A, ("conjugate", B, C)),
            "(a * b) @ c": ("conjugate", ("product", A, B), C),
            "a @ (b * c)": ("conjugate", A, ("product", B, C)),
            "a @ b * c": ("product", ("conjugate", A, B), C),
            "a^2^-1": ("power", ("power", A, 2), -1),
            "(a * b)^0": ("power", ("product", A, B), 0),
            "(a @ b)^-7": ("power", ("conjugate", A, B), -7),
            "lead 0 1^2": ("power", ("lead", 0, 1), 2),
            "swap 0.0 0.0^2 @ identity^3": (
                "conjugate", ("power", ("swap", (0, 0), (0, 0)), 2), ("power", IDENTITY, 3)
            ),
            f"a^{MOST}^-{MOST}": ("power", ("power", A, MOST), -MOST),
        }
        for text, tree in cases.items():
            self.assertEqual(format_tree(tree), text)
            self.check(tree)

    def test_drawn_trees(self):
        for lanes in ALL_LANES:
            source = numbers(6100 + lanes)
            for turn in range(150):
                self.check(drawn_tree(source, lanes, source.randint(1, 4)))

    def test_all_small_trees(self):
        small = [A, ("lead", 0, 1)]
        for level in range(2):
            pairs = [(left, right) for left in small for right in small]
            small = small[:2] + [(word, *pair) for word in ("product", "conjugate") for pair in pairs]
            small += [("power", tree, -2) for tree in small[:14]]
        for tree in small:
            self.check(tree)

    def test_61_levels(self):
        for word in ("product", "conjugate", "power"):
            for side in ("left", "right"):
                tree = nested(61, side, word)
                self.assertEqual(levels_of(tree), 61)
                self.check(tree)
        self.assertEqual(format_tree(nested(61, "left", "power")).count("^"), 60)
        self.assertEqual(format_tree(nested(61, "right")).count("("), 59)


class Evaluated(unittest.TestCase):
    def test_atoms(self):
        for lanes in ALL_LANES:
            last = lanes - 1
            self.assertTrue(evaluate(IDENTITY, {}, lanes=lanes) == identity(lanes))
            value = evaluate(("swap", (0, 0), (last, 3)), {}, lanes=lanes)
            self.assertTrue(value == swap(lanes, (0, 0), (last, 3)))
            for made in rich_maps(610, lanes, 3):
                self.assertTrue(evaluate(A, {"a": made, "b": identity(lanes)}, lanes=lanes) == made)
            if lanes > 1:
                self.assertTrue(evaluate(("lead", 0, last), {}, lanes=lanes) == lead(lanes, 0, last))

    def test_operators(self):
        for lanes in ALL_LANES:
            made = rich_maps(611, lanes, 6)
            for one, other in zip(made, made[1:]):
                names = {"a": one, "b": other}
                self.assertTrue(evaluate(("product", A, B), names, lanes=lanes) == compose(one, other))
                self.assertTrue(evaluate(("conjugate", A, B), names, lanes=lanes) == conjugate(one, other))
                for exponent in (-3, -1, 0, 1, 4):
                    value = evaluate(("power", A, exponent), names, lanes=lanes)
                    self.assertTrue(value == power(one, exponent))
                self.assertTrue(evaluate(("product", ("power", A, -1), A), names, lanes=lanes) == identity(lanes))

    def test_drawn_trees(self):
        seen = {}
        for lanes in ALL_LANES:
            source = numbers(6120 + lanes)
            for turn in range(150):
                names = drawn_names(612 + turn % 7, lanes)
                tree = drawn_tree(source, lanes, source.randint(1, 4), (-2, -1, 0, 1, 2, 3, 10 ** 18, -700))
                expected = outcome(slow_value, tree, names, lanes)
                self.assertEqual(outcome(evaluate, tree, names, lanes=lanes), expected)
                seen[expected if isinstance(expected, str) else expected[0]] = True
        self.assertLessEqual({NoName, OtherLanes, BadLane, TooWide}, set(seen))

    def test_the_left_operand_comes_first(self):
        faults = {
            NoName: ("name", "nobody"),
            OtherLanes: ("name", "y"),
            BadLane: ("lead", 9, 0),
            BadPlace: ("swap", (9, 0), (0, 0)),
            TooWide: ("swap", (0, 0), (1, 5000)),
        }
        names = {"y": identity(3), "a": lead(2, 0, 1)}
        for one, left in faults.items():
            for other, right in faults.items():
                for word in ("product", "conjugate"):
                    self.assertEqual(raised(evaluate, (word, left, right), names, lanes=2)[0], one)
                    self.assertEqual(raised(evaluate, (word, A, right), names, lanes=2)[0], other)
                    deep = (word, ("power", left, 0), (word, right, A))
                    self.assertEqual(raised(evaluate, deep, names, lanes=2)[0], one)

    def test_errors_and_their_fields(self):
        names = {"y": identity(3), "a": lead(2, 0, 1)}
        cases = [
            (("name", "b"), (NoName, {"name": "b"})),
            (("name", "y"), (OtherLanes, {})),
            (("lead", 2, 0), (BadLane, {"lane": 2})),
            (("lead", 0, 0), (BadLane, {"lane": 0})),
            (("lead", 0, MOST), (BadLane, {"lane": MOST})),
            (("swap", (0, 0), (2, MOST)), (BadPlace, {"place": (2, MOST)})),
            (("swap", (0, 0), (1, MOST)), (TooWide, {"most": 2000})),
            (("power", A, MOST), (TooWide, {"most": 2000})),
            (("power", A, -2001), (TooWide, {"most": 2000})),
            (("product", ("power", A, 2000), A), (TooWide, {"most": 2000})),
            (("power", ("name", "b"), 0), (NoName, {"name": "b"})),
            (("power", A, 2000), None),
            (("swap", (1, MOST), (1, MOST)), None),
            (("power", ("swap", (0, 0), (1, 7)), MOST), None),
        ]
        for tree, error in cases:
            self.assertEqual(raised(evaluate, tree, names, lanes=2), error, tree)

    def test_bad_lanes_comes_first(self):
        for lanes in (0, 7, -1, FAR, -FAR):
            for tree in (A, ("name", "nobody"), ("lead", 0, 0), ("swap", (9, 9), (9, 9)), IDENTITY, ("power", A, MOST)):
                self.assertEqual(raised(evaluate, tree, {"a": identity(1)}, lanes=lanes), (BadLanes, {}))

    def test_61_levels(self):
        for lanes in range(2, 7):
            names = {letter: lead(lanes, 0, 1) for letter in "abcxyz"}
            value = evaluate(nested(61, "left"), names, lanes=lanes)
            self.assertTrue(value == power(lead(lanes, 0, 1), 61))
            self.assertTrue(evaluate(nested(61, "right"), names, lanes=lanes) == value)
            self.assertTrue(evaluate(nested(61, "right", "conjugate"), names, lanes=lanes) == names["a"])
            turns = {"a": turned(lanes, 0, 7)}
            tree = A
            for level in range(60):
                tree = ("power", tree, 3)
            self.assertTrue(evaluate(tree, turns, lanes=lanes) == power(turns["a"], 3 ** 60))


def has_form(tree):
    """Tell whether the tree itself is one of the forms that are simplified."""
    word = tree[0]
    if word in ("product", "conjugate"):
        return IDENTITY in tree[1:]
    if word == "power":
        base, exponent = tree[1:]
        return base == IDENTITY or exponent in (0, 1) or base[0] == "power" and abs(base[2] * exponent) <= MOST
    return word == "swap" and tree[1] == tree[2]


class Simplified(unittest.TestCase):
    def check(self, tree):
        simple = simplified(tree)
        self.assertEqual([part for part in subtrees(simple) if has_form(part)], [])
        self.assertLessEqual(tuples_in(simple), tuples_in(tree))
        if not any(has_form(part) for part in subtrees(tree)):
            self.assertEqual(simple, tree)
        self.assertEqual(simplified(simple), simple)
        return simple

    def test_each_form(self):
        cases = [
            (("product", A, IDENTITY), A),
            (("product", IDENTITY, A), A),
            (("product", IDENTITY, IDENTITY), IDENTITY),
            (("conjugate", IDENTITY, A), IDENTITY),
            (("conjugate", A, IDENTITY), A),
            (("conjugate", IDENTITY, IDENTITY), IDENTITY),
            (("power", IDENTITY, 7), IDENTITY),
            (("power", IDENTITY, -MOST), IDENTITY),
            (("power", A, 0), IDENTITY),
            (("power", A, 1), A),
            (("power", A, -1), ("power", A, -1)),
            (("power", ("power", A, 2), 3), ("power", A, 6)),
            (("power", ("power", A, -2), 3), ("power", A, -6)),
            (("power", ("power", A, -1), -1), A),
            (("swap", (0, 3), (0, 3)), IDENTITY),
            (("swap", (0, 3), (0, 4)), ("swap", (0, 3), (0, 4))),
            (("lead", 0, 0), ("lead", 0, 0)),
            (("product", ("power", A, 0), B), B),
            (("power", ("product", ("swap", (1, 1), (1, 1)), ("power", A, -1)), -1), A),
            (("conjugate", ("product", A, B), ("power", C, 0)), ("product", A, B)),
            (("power", ("power", ("power", A, 2), 3), 5), ("power", A, 30)),
            (("power", ("power", ("power", A, 0), 3), 5), IDENTITY),
            (A, A),
            (IDENTITY, IDENTITY),
        ]
        for tree, simple in cases:
            self.assertEqual(simplified(tree), simple, tree)
            self.check(tree)

    def test_great_exponents(self):
        root = 10 ** 9
        for one, other in ((root, root), (-root, root), (root, -root), (-root, -root), (MOST, -1), (-1, MOST),
                           (2, MOST // 2)):
            self.assertEqual(simplified(("power", ("power", A, one), other)), ("power", A, one * other))
        # These two numbers have the least product that is too great.
        beyond = (10 ** 6 + 1, 10 ** 12 - 10 ** 6 + 1)
        self.assertEqual(beyond[0] * beyond[1], MOST + 1)
        for one in (beyond[0], -beyond[0]):
            for other in (beyond[1], -beyond[1]):
                tree = ("power", ("power", A, one), other)
                self.assertEqual(simplified(tree), tree)
                self.check(("power", tree, -1))
                self.check(("power", ("power", tree, -1), -1))
        self.assertEqual(simplified(("power", ("power", A, MOST), 2)), ("power", ("power", A, MOST), 2))
        self.assertEqual(simplified(("power", ("power", A, MOST), 0)), IDENTITY)
        self.assertEqual(simplified(("power", ("power", A, MOST), 1)), ("power", A, MOST))

    def test_drawn_trees(self):
        seen = 0
        for lanes in ALL_LANES:
            source = numbers(6200 + lanes)
            for turn in range(300):
                exponents = (-2, -1, -1, 0, 1, 1, 2, 3, 10 ** 9, -(10 ** 9), 10 ** 18, 10 ** 6 + 1)
                tree = drawn_tree(source, lanes, source.randint(1, 5), exponents)
                simple = self.check(tree)
                names = drawn_names(620 + turn % 5, lanes)
                value = outcome(evaluate, tree, names, lanes=lanes)
                if isinstance(value, str):
                    self.assertEqual(outcome(evaluate, simple, names, lanes=lanes), value)
                    seen += simple != tree
        self.assertGreater(seen, 300)

    def test_61_levels(self):
        for side in ("left", "right"):
            for word in ("product", "conjugate", "power"):
                self.check(nested(61, side, word))
        tree = A
        for level in range(60):
            tree = ("product", tree, ("power", B, 0)) if level % 2 else ("power", tree, -1)
        self.assertEqual(self.check(tree), A)


class Calls(unittest.TestCase):
    def test_by_name(self):
        tree = ("power", A, 2)
        self.assertEqual(format_tree(tree=tree), "a^2")
        self.assertTrue(evaluate(lanes=2, names={"a": lead(2, 0, 1)}, tree=tree) == power(lead(2, 0, 1), 2))
        self.assertEqual(simplified(tree=("power", tree, 3)), ("power", A, 6))
        with self.assertRaises(TypeError):
            evaluate(tree, {}, 2)
        with self.assertRaises(TypeError):
            evaluate(tree, {})

    def test_nothing_changes(self):
        for lanes in ALL_LANES:
            source = numbers(6300 + lanes)
            for turn in range(20):
                names = drawn_names(630, lanes)
                before = {name: told(names[name]) for name in names}
                keys = list(names)
                tree = drawn_tree(source, lanes, 4)
                value = outcome(evaluate, tree, names, lanes=lanes)
                if isinstance(value, str):
                    made = evaluate(tree, names, lanes=lanes)
                    self.assertIsInstance(made, LaneMap)
                    for row in made.goals():
                        row.append((0, 0))
                    self.assertTrue(inverse(inverse(made)) == evaluate(tree, names, lanes=lanes))
                self.assertEqual(list(names), keys)
                self.assertEqual({name: told(names[name]) for name in names}, before)
                self.assertEqual(outcome(evaluate, tree, names, lanes=lanes), value)


if __name__ == "__main__":
    unittest.main()
