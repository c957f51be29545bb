"""The examples of the document, as it writes them."""

import unittest

from farlanes.algebra import compose, inverse
from farlanes.errors import BadLanes, NotBijective
from farlanes.maps import MOST_GOALS, MOST_LANES, LaneMap, identity, lead, swap
from tests.samples import raised


class MapExamples(unittest.TestCase):
    def test_the_limits(self):
        self.assertEqual((MOST_LANES, MOST_GOALS), (6, 2000))

    def test_repr(self):
        self.assertEqual(repr(LaneMap([-1, 1], [[(1, 0)], []])), "LaneMap(2 lanes, 1 goals)")

    def test_goals_for_too_few_lanes(self):
        self.assertEqual(raised(LaneMap, [-1, 1], [[(1, 1)]]), (BadLanes, {}))

    def test_not_bijective(self):
        self.assertEqual(raised(LaneMap, [-1, 1], [[(1, 1)], []]), (NotBijective, {"place": (1, 0)}))

    def test_asking_a_map(self):
        step = LaneMap([-1, 1], [[(1, 0)], []])
        answers = [step.bounds(), step.goal((0, 4)), step.source((1, 0)), len(step)]
        self.assertEqual(answers, [[1, 0], (0, 3), (0, 0), 1])

    def test_swap_and_lead(self):
        answers = [swap(1, (0, 0), (0, 2)).goals(), lead(2, 0, 1).goals()]
        self.assertEqual(answers, [[[(0, 2), (0, 1), (0, 0)]], [[(1, 0)], []]])

    def test_the_text_of_a_lead(self):
        self.assertEqual(str(lead(2, 0, 1)), "-1 1.0 | 1")


class AlgebraExamples(unittest.TestCase):
    def test_compose_with_the_inverse(self):
        self.assertIs(compose(lead(2, 0, 1), inverse(lead(2, 0, 1))) == identity(2), True)


if __name__ == "__main__":
    unittest.main()
