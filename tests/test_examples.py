"""The examples of the document, as it writes them."""

import unittest

from farlanes.algebra import compose, inverse
from farlanes.conjugacy import MOST_CHOICES, conjugacy, plan_image
from farlanes.errors import BadLanes, NotBijective
from farlanes.judging import is_plan
from farlanes.maps import MOST_GOALS, MOST_LANES, LaneMap, identity, lead, swap
from farlanes.moments import moments
from farlanes.orbits import place_at, roads, spot
from farlanes.relations import exponent, order
from farlanes.travel import advance
from tests.samples import raised


class MapExamples(unittest.TestCase):
    def test_the_limits(self):
        self.assertEqual((MOST_LANES, MOST_GOALS), (6, 2000))

    def test_repr(self):
        self.assertEqual(repr(LaneMap([-1, 1], [[(1, 0)], []])), "LaneMap(2 lanes, 1 goals)")

    def test_goals_for_too_few_lanes(self):
        self.assertEqual(raised(LaneMap, [-1, 1], [[(1, 1)]]), (BadLanes, {}))

    def test_not_bijective(self):
        self.assertEqual(raised(LaneMap, [-1, 1], [[(1, 1)], []]), (NotBijective, {"place": (1, 0)}))

    def test_asking_a_map(self):
        step = LaneMap([-1, 1], [[(1, 0)], []])
        answers = [step.bounds(), step.goal((0, 4)), step.source((1, 0)), len(step)]
        self.assertEqual(answers, [[1, 0], (0, 3), (0, 0), 1])

    def test_swap_and_lead(self):
        answers = [swap(1, (0, 0), (0, 2)).goals(), lead(2, 0, 1).goals()]
        self.assertEqual(answers, [[[(0, 2), (0, 1), (0, 0)]], [[(1, 0)], []]])

    def test_the_text_of_a_lead(self):
        self.assertEqual(str(lead(2, 0, 1)), "-1 1.0 | 1")


class AlgebraExamples(unittest.TestCase):
    def test_compose_with_the_inverse(self):
        self.assertIs(compose(lead(2, 0, 1), inverse(lead(2, 0, 1))) == identity(2), True)


class OrbitExamples(unittest.TestCase):
    def test_roads_and_spots(self):
        step = lead(2, 0, 1)
        answers = [roads(step), spot(step, (0, 5)), place_at(step, ("road", 0, 3))]
        self.assertEqual(answers, [[[(0, 1), (0, 0), (1, 0)]], ("road", 0, -4), (1, 1)])

    def test_advance(self):
        self.assertEqual(advance(lead(2, 0, 1), (0, 5), count=10 ** 18), (1, 999999999999999994))

    def test_moments(self):
        answers = [
            moments(lead(2, 0, 1), [((0, 5), (1, 1))]),
            moments(swap(1, (0, 0), (0, 2)), [((0, 2), (0, 0))]),
        ]
        self.assertEqual(answers, [("once", 7), ("every", 1, 2)])

    def test_order_and_exponent(self):
        turn = swap(1, (0, 0), (0, 2))
        answers = [order(lead(2, 0, 1)), order(turn), exponent(turn, identity(1))]
        self.assertEqual(answers, [None, 2, ("every", 0, 2)])


class ConjugacyExamples(unittest.TestCase):
    def test_conjugacy(self):
        answers = [conjugacy(identity(2), lead(2, 0, 1)), conjugacy(identity(1), swap(1, (0, 0), (0, 1)))]
        self.assertEqual(answers, [("drift", 0), ("cycles", 2)])

    def test_plan_image(self):
        plan = ("plan", [-1, 1], [(0, 1)], [])
        self.assertEqual(plan_image(lead(2, 0, 1), lead(2, 0, 1), plan, (0, 1)), (0, 0))

    def test_is_plan(self):
        step = lead(2, 0, 1)
        answers = [is_plan(step, step, ("plan", [-1, 1], [(0, k)], [])) for k in (0, 1)]
        self.assertEqual(answers, [False, True])

    def test_the_limit(self):
        self.assertEqual(MOST_CHOICES, 1000)


if __name__ == "__main__":
    unittest.main()
