"""The names and parameters of the whole interface, and each of its errors raised by some call."""

import importlib
import inspect
import unittest

from farlanes import errors
from farlanes.algebra import compose
from farlanes.conjugacy import conjugacy, plan_image
from farlanes.desk import Desk
from farlanes.expressions import evaluate, parse
from farlanes.machine import run
from farlanes.maps import LaneMap, identity, lead, swap
from farlanes.moves import from_moves
from farlanes.notation import parse_map
from farlanes.orbits import place_at
from farlanes.pages import read_page
from farlanes.roots import root
from farlanes.store import Store
from farlanes.travel import power

FUNCTIONS = {
    "maps": ["identity(lanes)", "swap(lanes, one, other)", "lead(lanes, source, sink)"],
    "algebra": ["compose(first, second)", "inverse(lane_map)", "conjugate(lane_map, by)", "commute(one, other)"],
    "orbits": [
        "cycles(lane_map)", "roads(lane_map, *, lane=None)", "fixed(lane_map)", "spot(lane_map, place)",
        "place_at(lane_map, spot)",
    ],
    "travel": ["advance(lane_map, place, *, count=1)", "power(lane_map, exponent)"],
    "moments": ["moments(lane_map, pairs)", "first_moment(lane_map, pairs)"],
    "relations": ["order(lane_map)", "exponent(base, lane_map)"],
    "conjugacy": [
        "conjugacy(one, other, *, most=1000)", "plan_image(one, other, plan, place)", "plan_map(one, other, plan)",
    ],
    "judging": ["is_plan(one, other, plan)", "is_obstruction(one, other, paper)"],
    "roots": ["root(lane_map, degree)", "is_no_root(lane_map, degree, paper)"],
    "moves": ["from_moves(lanes, moves)", "moves_of(lane_map)"],
    "notation": ["format_map(lane_map)", "parse_map(text)"],
    "expressions": ["parse(text)", "format_tree(tree)", "evaluate(tree, names, *, lanes)", "simplified(tree)"],
    "machine": ["compiled(tree)", "run(program, names, *, lanes)"],
    "pages": ["page(store)", "read_page(text)"],
}
METHODS = {
    ("maps", "LaneMap"): [
        "__init__(self, drifts, goals=())", "lanes(self)", "drifts(self)", "bounds(self)", "goals(self)",
        "goal(self, place)", "source(self, place)", "__eq__(self, other)", "__len__(self)", "__repr__(self)",
        "__str__(self)",
    ],
    ("store", "Store"): [
        "__init__(self, lanes)", "do(self, step)", "all_of(self, steps)", "put(self, bead, place)",
        "define(self, name, lane_map)", "move(self, name, *, count=1)", "undo(self)", "redo(self)", "steps(self)",
        "twin(self)", "lanes(self)", "beads(self)", "maps(self)", "where(self, bead)", "bead_at(self, place)",
        "lane_map(self, name)", "history(self)", "was(self, bead, steps)", "first_time(self, name, goals)",
        "__eq__(self, other)", "__len__(self)", "__repr__(self)",
    ],
    ("desk", "Desk"): ["__init__(self, store)", "store(self)", "say(self, line)", "__len__(self)"],
}
CONSTANTS = {
    "maps": {"MOST_LANES": 6, "MOST_GOALS": 2000},
    "conjugacy": {"MOST_CHOICES": 1000},
    "expressions": {"MOST_SIGNS": 60},
    "store": {"MOST_BEADS": 40, "MOST_MAPS": 12},
}
STILL = identity(2)
STEP = lead(2, 0, 1)


def module(name):
    return importlib.import_module(f"farlanes.{name}")


def filled(many_beads, many_maps):
    """A store with so many beads and maps."""
    store = Store(2)
    store.all_of([("put", "b" + chr(97 + at // 20) + chr(97 + at % 20), (0, at)) for at in range(many_beads)])
    store.all_of([("define", "m" + chr(97 + at), STILL) for at in range(many_maps)])
    return store


# A call for each error, and the error's own attributes.
CALLS = {
    "BadLanes": (lambda: Store(7), {}),
    "BadLane": (lambda: lead(2, 0, 0), {"lane": 0}),
    "BadPlace": (lambda: STILL.goal((2, 0)), {"place": (2, 0)}),
    "BadGoal": (lambda: LaneMap([0], [[(0, -1)]]), {"place": (0, 0)}),
    "NotBijective": (lambda: LaneMap([1]), {"place": (0, 0)}),
    "TooWide": (lambda: power(STEP, 2001), {"most": 2000}),
    "OtherLanes": (lambda: compose(STILL, identity(3)), {}),
    "BadSpot": (lambda: place_at(STILL, ("road", 0, 0)), {"spot": ("road", 0, 0)}),
    "TooMany": (lambda: conjugacy(STEP, STEP, most=0), {"most": 0}),
    "BadPlan": (lambda: plan_image(STILL, STILL, ("plan", [1, 0], [], []), (0, 0)), {}),
    "BadDegree": (lambda: root(STILL, 13), {"degree": 13}),
    "BadMove": (lambda: from_moves(2, [("lead", 0, 1), ()]), {"at": 1}),
    "BadText": (lambda: parse_map("0 | x"), {"at": 1}),
    "BadSyntax": (lambda: parse("a *"), {"at": 3}),
    "BadProgram": (lambda: run([], {}, lanes=1), {"at": 0}),
    "BadName": (lambda: Store(1).put("A", (0, 0)), {}),
    "Taken": (lambda: filled(1, 0).put("baa", (0, 5)), {"name": "baa"}),
    "Held": (lambda: filled(1, 0).put("x", (0, 0)), {"by": "baa"}),
    "Full": (lambda: filled(40, 12).put("x", (0, 90)), {}),
    "BadCount": (lambda: filled(0, 1).move("ma", count=-(10 ** 18) - 1), {"count": -(10 ** 18) - 1}),
    "BadDeed": (lambda: Store(1).do(("put",)), {}),
    "Stopped": (lambda: Store(1).all_of([("take", "a")]), {"at": 0}),
    "BadPage": (lambda: read_page("lanes 1\nx\n"), {"row": 1}),
    "NoName": (lambda: evaluate(("name", "a"), {}, lanes=1), {"name": "a"}),
    "NoBead": (lambda: Store(1).where("a"), {"name": "a"}),
    "NoMap": (lambda: Store(1).lane_map("a"), {"name": "a"}),
    "NothingLeft": (lambda: Store(1).undo(), {}),
}


class Interface(unittest.TestCase):
    def test_functions(self):
        for name, wanted in FUNCTIONS.items():
            for signature in wanted:
                function = vars(module(name))[signature.split("(")[0]]
                self.assertEqual(function.__name__ + str(inspect.signature(function)), signature)

    def test_methods_stand_in_their_classes(self):
        for (name, kind), wanted in METHODS.items():
            own = vars(vars(module(name))[kind])
            for signature in wanted:
                method = own[signature.split("(")[0]]
                self.assertEqual(method.__name__ + str(inspect.signature(method)), signature)

    def test_constants(self):
        for name, wanted in CONSTANTS.items():
            for constant, value in wanted.items():
                self.assertEqual(vars(module(name))[constant], value)


class Raised(unittest.TestCase):
    def test_each_error_is_raised(self):
        kinds = [name for name, kind in vars(errors).items() if inspect.isclass(kind)]
        self.assertEqual(sorted(kinds), sorted([*CALLS, "LaneError", "Missing"]))
        for name, (call, values) in CALLS.items():
            with self.subTest(name):
                with self.assertRaises(vars(errors)[name]) as caught:
                    call()
                self.assertEqual(type(caught.exception).__name__, name)
                self.assertEqual(vars(caught.exception), {**values, "word": name})

    def test_the_bases_catch_them(self):
        lost = {"NoName": errors.Missing, "NoBead": errors.Missing, "NoMap": errors.Missing, "NothingLeft": IndexError}
        for name, (call, values) in CALLS.items():
            self.assertRaises(lost.get(name, errors.LaneError), call)


class Answers(unittest.TestCase):
    def test_none_is_returned_by_what_changes_a_store(self):
        store = Store(2)
        calls = [
            lambda: store.do(("put", "a", (0, 0))), lambda: store.all_of([]), lambda: store.put("b", (0, 1)),
            lambda: store.define("x", swap(2, (0, 0), (0, 1))), lambda: store.move("x"), lambda: store.undo(),
            lambda: store.redo(),
        ]
        self.assertEqual([call() for call in calls], [None] * 7)

    def test_kinds_of_answers(self):
        store = filled(2, 1)
        answers = [
            (store.beads(), list), (store.maps(), list), (store.history(), list), (store.steps(), tuple),
            (store.where("baa"), tuple), (store.bead_at((0, 0)), str), (store.lane_map("ma"), LaneMap),
            (store.twin(), Store), (store.was("baa", 0), tuple), (store.lanes(), int), (Desk(store).say("x"), str),
            (store.first_time("ma", {}), int), (len(store), int), (repr(store), str),
        ]
        for answer, kind in answers:
            self.assertIs(type(answer), kind)
        self.assertEqual([type(pair) for pair in store.beads()], [tuple, tuple])


if __name__ == "__main__":
    unittest.main()
