"""compiled and run, against evaluate."""

import unittest

from farlanes.errors import BadLane, BadLanes, BadPlace, BadProgram, NoName, OtherLanes, TooWide
from farlanes.expressions import evaluate, parse
from farlanes.machine import compiled, run
from farlanes.maps import LaneMap, identity, lead, swap
from farlanes.travel import power
from tests.samples import FAR, numbers, raised, told
from tests.trees import MOST, drawn_names, drawn_tree, nested, outcome

ALL_LANES = range(1, 7)
ITEMS = {"identity": 1, "lead": 3, "swap": 3, "load": 2, "compose": 1, "conjugate": 1, "power": 2}
POPPED = {"compose": 2, "conjugate": 2, "power": 1}
ODD = [
    (), ("identity", 0), ("lead",), ("lead", 0), ("lead", 0, 1, 2), ("swap", (0, 0)), ("swap", (0, 0), (0, 1), (0, 2)),
    ("load",), ("load", "a", "b"), ("compose", 1), ("conjugate", "a"), ("power",), ("power", 2, 3), ("product",),
    ("name", "a"), ("Identity",), ("",), ("undo",), (0,), (None,), ("push", "a"), ("load ", "a"),
]
FITTING = [
    ("identity",), ("lead", 0, 0), ("lead", 0, 1), ("swap", (0, 0), (0, 2)), ("swap", (9, 0), (0, 0)), ("load", "a"),
    ("load", "nobody"), ("load", ""), ("compose",), ("conjugate",), ("power", -1), ("power", MOST),
]


def slow_program(tree):
    """The program of a tree, operand by operand."""
    word = tree[0]
    if word == "name":
        return [("load", tree[1])]
    if word == "power":
        return [*slow_program(tree[1]), ("power", tree[2])]
    if word in ("product", "conjugate"):
        last = ("compose",) if word == "product" else ("conjugate",)
        return [*slow_program(tree[1]), *slow_program(tree[2]), last]
    return [tree]


def slow_fault(program):
    """The index that BadProgram has for a program, or None."""
    stack = []
    for at, step in enumerate(program):
        if not step or step[0] not in ITEMS or len(step) != ITEMS[step[0]]:
            return at
        for turn in range(POPPED.get(step[0], 0)):
            if not stack:
                return at
            stack.pop()
        stack.append("map")
    return None if len(stack) == 1 else len(program)


def slow_run(program, names, lanes):
    """What a program that can be run leaves on the stack, by evaluating a tree that it stands for."""
    stack = []
    for step in program:
        if step[0] in ("compose", "conjugate"):
            right, left = stack.pop(), stack.pop()
            stack.append(("product" if step[0] == "compose" else "conjugate", left, right))
        elif step[0] == "power":
            stack.append(("power", stack.pop(), step[1]))
        else:
            stack.append(("name", step[1]) if step[0] == "load" else step)
    return evaluate(stack[0], names, lanes=lanes)


class Compiled(unittest.TestCase):
    def test_some_trees(self):
        cases = {
            "identity": [("identity",)],
            "a": [("load", "a")],
            "lead 1 0": [("lead", 1, 0)],
            "swap 0.1 2.3": [("swap", (0, 1), (2, 3))],
            "a * b": [("load", "a"), ("load", "b"), ("compose",)],
            "a @ b": [("load", "a"), ("load", "b"), ("conjugate",)],
            "a ^ -2": [("load", "a"), ("power", -2)],
            "a * (b @ c)^3": [
                ("load", "a"), ("load", "b"), ("load", "c"), ("conjugate",), ("power", 3), ("compose",)
            ],
        }
        for text, program in cases.items():
            self.assertEqual(compiled(parse(text)), program)

    def test_drawn_trees(self):
        for lanes in ALL_LANES:
            source = numbers(7000 + lanes)
            for turn in range(100):
                tree = drawn_tree(source, lanes, source.randint(1, 4))
                program = compiled(tree)
                self.assertIsInstance(program, list)
                self.assertEqual(program, slow_program(tree))
                self.assertEqual([step for step in program if not isinstance(step, tuple)], [])

    def test_61_levels(self):
        for word in ("product", "conjugate", "power"):
            for side in ("left", "right"):
                tree = nested(61, side, word)
                self.assertEqual(compiled(tree), slow_program(tree))

    def test_the_list_is_new(self):
        tree = parse("a * lead 0 1 ^ 2")
        program = compiled(tree)
        program.clear()
        self.assertEqual(compiled(tree), [("load", "a"), ("lead", 0, 1), ("power", 2), ("compose",)])


class Run(unittest.TestCase):
    def test_against_evaluate(self):
        seen = {}
        for lanes in ALL_LANES:
            source = numbers(7010 + lanes)
            for turn in range(120):
                names = drawn_names(701 + turn % 7, lanes)
                tree = drawn_tree(source, lanes, source.randint(1, 4), (-2, -1, 0, 1, 2, 3, MOST, -700))
                program = compiled(tree)
                expected = outcome(evaluate, tree, names, lanes=lanes)
                self.assertEqual(outcome(run, program, names, lanes=lanes), expected)
                self.assertEqual(outcome(run, tuple(program), names, lanes=lanes), expected)
                seen[expected if isinstance(expected, str) else expected[0]] = True
        self.assertLessEqual({NoName, OtherLanes, BadLane, TooWide}, set(seen))

    def test_the_same_program_with_other_maps(self):
        for lanes in ALL_LANES:
            source = numbers(7020 + lanes)
            for turn in range(20):
                tree = drawn_tree(source, lanes, 4)
                program = compiled(tree)
                for seed in (702, 703, 702):
                    names = drawn_names(seed, lanes)
                    for again in range(2):
                        expected = outcome(evaluate, tree, names, lanes=lanes)
                        self.assertEqual(outcome(run, program, names, lanes=lanes), expected)

    def test_61_levels(self):
        for lanes in range(2, 7):
            names = {letter: lead(lanes, 0, 1) for letter in "abcxyz"}
            for side in ("left", "right"):
                made = run(compiled(nested(61, side)), names, lanes=lanes)
                self.assertTrue(made == power(lead(lanes, 0, 1), 61))
                self.assertIsInstance(made, LaneMap)

    def test_which_map_is_popped_first(self):
        names = {"a": lead(2, 0, 1), "b": swap(2, (0, 0), (1, 3))}
        for word, name in (("compose", "product"), ("conjugate", "conjugate")):
            made = run([("load", "a"), ("load", "b"), (word,)], names, lanes=2)
            self.assertTrue(made == evaluate((name, ("name", "a"), ("name", "b")), names, lanes=2))
            self.assertFalse(made == evaluate((name, ("name", "b"), ("name", "a")), names, lanes=2))


class Faults(unittest.TestCase):
    def check(self, program, names, lanes):
        """The map, the error of the first instruction that raises one, or BadProgram; tells whether it is that."""
        at = slow_fault(program)
        if at is None:
            self.assertEqual(outcome(run, program, names, lanes=lanes), outcome(slow_run, program, names, lanes))
        else:
            self.assertEqual(raised(run, program, names, lanes=lanes), (BadProgram, {"at": at}), program)
        for wrong in (0, 7):
            self.assertEqual(raised(run, program, names, lanes=wrong), (BadLanes, {}))
        return at is None

    def test_changed_programs(self):
        seen = {}
        for lanes in ALL_LANES:
            source = numbers(7030 + lanes)
            for turn in range(150):
                names = drawn_names(704, lanes)
                steps = compiled(drawn_tree(source, lanes, source.randint(1, 4)))
                at, other = source.randrange(len(steps)), source.randrange(len(steps))
                swapped = list(steps)
                swapped[at], swapped[other] = swapped[other], swapped[at]
                changed = [steps[:at] + steps[at + 1:], steps[:at] + [steps[at]] + steps[at:], swapped, steps[:at]]
                for extra in (source.choice(ODD), source.choice(FITTING)):
                    changed += [steps[:at] + [extra] + steps[at:], steps[:at] + [extra] + steps[at + 1:]]
                for program in changed:
                    seen[self.check(program, names, lanes)] = True
        self.assertEqual(sorted(seen), [False, True])

    def test_drawn_programs(self):
        source = numbers(7040)
        for turn in range(1500):
            program = [source.choice(FITTING) for each in range(source.randint(0, 6))]
            self.check(program, {"a": lead(2, 0, 1)}, 2)

    def test_each_odd_instruction(self):
        for odd in ODD:
            self.assertEqual(raised(run, [odd], {}, lanes=2), (BadProgram, {"at": 0}))
            self.assertEqual(raised(run, [("identity",), ("identity",), odd], {}, lanes=2), (BadProgram, {"at": 2}))

    def test_too_few_and_too_many_maps(self):
        one = ("identity",)
        cases = [
            ([], 0), ([("compose",)], 0), ([("power", 2)], 0), ([one, ("compose",)], 1), ([one, ("conjugate",)], 1),
            ([one, one], 2), ([one, one, ("compose",), ("compose",)], 3), ([one, one, one, ("compose",)], 4),
            ([one], None), ([one, ("power", 0)], None), ([one, one, ("compose",)], None),
        ]
        for program, at in cases:
            expected = None if at is None else (BadProgram, {"at": at})
            self.assertEqual(raised(run, program, {}, lanes=1), expected)

    def test_faults_come_before_anything_is_computed(self):
        wrong = [("load", "nobody"), ("lead", 0, 0), ("compose",), ("compose",)]
        self.assertEqual(raised(run, wrong, {}, lanes=1), (BadProgram, {"at": 3}))
        self.assertEqual(raised(run, wrong[:2], {}, lanes=1), (BadProgram, {"at": 2}))
        self.assertEqual(raised(run, wrong[:3], {}, lanes=1), (NoName, {"name": "nobody"}))
        self.assertEqual(raised(run, [("lead", 9, 9), ()], {}, lanes=1), (BadProgram, {"at": 1}))

    def test_numbers_of_lanes(self):
        for lanes in (0, 7, -1, FAR, -FAR):
            for program in ([], [()], [("load", "nobody")], [("identity",)]):
                self.assertEqual(raised(run, program, {}, lanes=lanes), (BadLanes, {}))

    def test_errors_and_their_fields(self):
        names = {"y": identity(3), "a": lead(2, 0, 1)}
        cases = [
            ([("load", "b")], (NoName, {"name": "b"})),
            ([("load", "y")], (OtherLanes, {})),
            ([("lead", 0, 0)], (BadLane, {"lane": 0})),
            ([("lead", -1, 0)], (BadLane, {"lane": -1})),
            ([("swap", (0, 0), (0, -1))], (BadPlace, {"place": (0, -1)})),
            ([("swap", (0, 0), (0, 2000))], (TooWide, {"most": 2000})),
            ([("load", "a"), ("power", 2001)], (TooWide, {"most": 2000})),
            ([("load", "b"), ("load", "y"), ("compose",)], (NoName, {"name": "b"})),
            ([("load", "y"), ("load", "b"), ("compose",)], (OtherLanes, {})),
            ([("load", "a"), ("power", 2000)], None),
        ]
        for program, error in cases:
            self.assertEqual(raised(run, program, names, lanes=2), error)


class Calls(unittest.TestCase):
    def test_by_name(self):
        tree = parse("a ^ 2")
        self.assertEqual(compiled(tree=tree), [("load", "a"), ("power", 2)])
        made = run(lanes=2, names={"a": lead(2, 0, 1)}, program=compiled(tree))
        self.assertTrue(made == power(lead(2, 0, 1), 2))
        with self.assertRaises(TypeError):
            run(compiled(tree), {}, 2)

    def test_nothing_changes(self):
        for lanes in ALL_LANES:
            names = drawn_names(705, lanes)
            keys, before = list(names), {name: told(names[name]) for name in names}
            program = compiled(parse("(a * b @ c)^-2 * a"))
            kept = list(program)
            made = run(program, names, lanes=lanes)
            raised(run, program + [()], names, lanes=lanes)
            raised(run, [("load", "nobody")], names, lanes=lanes)
            self.assertEqual(program, kept)
            self.assertEqual(list(names), keys)
            self.assertEqual({name: told(names[name]) for name in names}, before)
            again = told(made)
            names.clear()
            program.clear()
            self.assertEqual(told(made), again)


if __name__ == "__main__":
    unittest.main()
