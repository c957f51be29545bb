"""The examples of the document, as it writes them."""

import unittest

from farlanes.algebra import compose, inverse
from farlanes.conjugacy import MOST_CHOICES, conjugacy, plan_image
from farlanes.desk import Desk
from farlanes.errors import BadLanes, BadMove, BadSyntax, BadText, NotBijective, Stopped
from farlanes.expressions import MOST_SIGNS, format_tree, parse, simplified
from farlanes.judging import is_plan
from farlanes.machine import compiled
from farlanes.maps import MOST_GOALS, MOST_LANES, LaneMap, identity, lead, swap
from farlanes.moments import moments
from farlanes.moves import from_moves
from farlanes.notation import format_map, parse_map
from farlanes.orbits import place_at, roads, spot
from farlanes.pages import page
from farlanes.relations import exponent, order
from farlanes.roots import root
from farlanes.store import Store
from farlanes.travel import advance, power
from tests.samples import raised


class MapExamples(unittest.TestCase):
    def test_the_limits(self):
        self.assertEqual((MOST_LANES, MOST_GOALS), (6, 2000))

    def test_repr(self):
        self.assertEqual(repr(LaneMap([-1, 1], [[(1, 0)], []])), "LaneMap(2 lanes, 1 goals)")

    def test_goals_for_too_few_lanes(self):
        self.assertEqual(raised(LaneMap, [-1, 1], [[(1, 1)]]), (BadLanes, {}))

    def test_not_bijective(self):
        self.assertEqual(raised(LaneMap, [-1, 1], [[(1, 1)], []]), (NotBijective, {"place": (1, 0)}))

    def test_asking_a_map(self):
        step = LaneMap([-1, 1], [[(1, 0)], []])
        answers = [step.bounds(), step.goal((0, 4)), step.source((1, 0)), len(step)]
        self.assertEqual(answers, [[1, 0], (0, 3), (0, 0), 1])

    def test_swap_and_lead(self):
        answers = [swap(1, (0, 0), (0, 2)).goals(), lead(2, 0, 1).goals()]
        self.assertEqual(answers, [[[(0, 2), (0, 1), (0, 0)]], [[(1, 0)], []]])

    def test_the_text_of_a_lead(self):
        self.assertEqual(str(lead(2, 0, 1)), "-1 1.0 | 1")


class AlgebraExamples(unittest.TestCase):
    def test_compose_with_the_inverse(self):
        self.assertIs(compose(lead(2, 0, 1), inverse(lead(2, 0, 1))) == identity(2), True)


class OrbitExamples(unittest.TestCase):
    def test_roads_and_spots(self):
        step = lead(2, 0, 1)
        answers = [roads(step), spot(step, (0, 5)), place_at(step, ("road", 0, 3))]
        self.assertEqual(answers, [[[(0, 1), (0, 0), (1, 0)]], ("road", 0, -4), (1, 1)])

    def test_advance(self):
        self.assertEqual(advance(lead(2, 0, 1), (0, 5), count=10 ** 18), (1, 999999999999999994))

    def test_moments(self):
        answers = [
            moments(lead(2, 0, 1), [((0, 5), (1, 1))]),
            moments(swap(1, (0, 0), (0, 2)), [((0, 2), (0, 0))]),
        ]
        self.assertEqual(answers, [("once", 7), ("every", 1, 2)])

    def test_order_and_exponent(self):
        turn = swap(1, (0, 0), (0, 2))
        answers = [order(lead(2, 0, 1)), order(turn), exponent(turn, identity(1))]
        self.assertEqual(answers, [None, 2, ("every", 0, 2)])


class ConjugacyExamples(unittest.TestCase):
    def test_conjugacy(self):
        answers = [conjugacy(identity(2), lead(2, 0, 1)), conjugacy(identity(1), swap(1, (0, 0), (0, 1)))]
        self.assertEqual(answers, [("drift", 0), ("cycles", 2)])

    def test_plan_image(self):
        plan = ("plan", [-1, 1], [(0, 1)], [])
        self.assertEqual(plan_image(lead(2, 0, 1), lead(2, 0, 1), plan, (0, 1)), (0, 0))

    def test_is_plan(self):
        step = lead(2, 0, 1)
        answers = [is_plan(step, step, ("plan", [-1, 1], [(0, k)], [])) for k in (0, 1)]
        self.assertEqual(answers, [False, True])

    def test_the_limit(self):
        self.assertEqual(MOST_CHOICES, 1000)


class RootExamples(unittest.TestCase):
    def test_root(self):
        step = lead(2, 0, 1)
        answers = [root(step, 2), root(swap(1, (0, 0), (0, 1)), 2), root(power(step, 2), 2)[1] == step]
        self.assertEqual(answers, [("drift", 0), ("cycles", 2), True])


class TextExamples(unittest.TestCase):
    def test_from_moves(self):
        self.assertEqual(raised(from_moves, 2, [("lead", 0, 1), ("lead", 0, 0)]), (BadMove, {"at": 1}))

    def test_format_map_and_parse_map(self):
        answers = [format_map(lead(2, 0, 1)), parse_map("-1 1.0 | 1") == lead(2, 0, 1)]
        self.assertEqual(answers, ["-1 1.0 | 1", True])

    def test_a_leading_zero(self):
        self.assertEqual(raised(parse_map, "-1 1.0 | 01"), (BadText, {"at": 1}))

    def test_format_tree_and_simplified(self):
        answers = [format_tree(parse("(a*(b)) ^2^ -1")), format_tree(simplified(parse("a ^ 2 ^ 3 * identity")))]
        self.assertEqual(answers, ["(a * b)^2^-1", "a^6"])

    def test_parse(self):
        self.assertEqual(raised(parse, "a * * b"), (BadSyntax, {"at": 4}))

    def test_the_limit_of_signs(self):
        self.assertEqual(MOST_SIGNS, 60)


class StoreExamples(unittest.TestCase):
    def test_compiled(self):
        program = [("load", "a"), ("lead", 0, 1), ("power", 2), ("compose",)]
        self.assertEqual(compiled(parse("a * lead 0 1 ^ 2")), program)

    def test_a_store(self):
        store = Store(2)
        store.put("a", (0, 2))
        store.define("x", lead(2, 0, 1))
        store.move("x", count=4)
        answers = [store.where("a"), store.was("a", 1), store.first_time("x", {"a": (1, 9)})]
        self.assertEqual(answers, [(1, 1), (0, 2), 8])

    def test_repr_of_a_store(self):
        store = Store(2)
        store.put("a", (0, 2))
        self.assertEqual(repr(store), "Store(2 lanes, 1 beads, 0 maps)")

    def test_stopped(self):
        store = Store(1)
        self.assertEqual(raised(store.all_of, [("put", "a", (0, 0)), ("put", "b", (0, 0))]), (Stopped, {"at": 1}))

    def test_page(self):
        store = Store(2)
        store.all_of([("put", "a", (0, 2)), ("define", "x", lead(2, 0, 1))])
        self.assertEqual(page(store), "lanes 2\nmap x -1 1.0 | 1\nbead a 0.2\n")

    def test_desk(self):
        desk = Desk(Store(2))
        self.assertEqual(desk.say("let x lead 0 1 ^ 3"), "done")
        lines = ["show x", "order x", "alike x , x", "drop y", "let y 5"]
        self.assertEqual([desk.say(line) for line in lines], ["-3 1.2 1.1 1.0 | 3", "none", "yes", "no NoMap", "what"])


if __name__ == "__main__":
    unittest.main()
