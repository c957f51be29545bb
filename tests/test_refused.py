"""What LaneMap refuses, and the least place that it names."""

import unittest

from farlanes.errors import BadGoal, BadLanes, NotBijective, TooWide
from farlanes.maps import LaneMap
from tests.samples import FAR, image, near_places, numbers, parts, raised

ALL_LANES = range(1, 7)
HUGE = 10 ** 30 - 1


def refusal(drifts, goals):
    """The expected error of small drifts and goals, place by place."""
    lanes = len(drifts)
    images = {}
    for place in near_places(lanes, 40):
        lane, at = image(drifts, goals, place)
        if not (0 <= lane < lanes and at >= 0):
            return BadGoal, {"place": place}
        images.setdefault((lane, at), []).append(place)
    for place in near_places(lanes, 25):
        if len(images.get(place, [])) != 1:
            return NotBijective, {"place": place}
    return None


class Counts(unittest.TestCase):
    def test_the_number_of_drifts(self):
        self.assertEqual(raised(LaneMap, []), (BadLanes, {}))
        self.assertEqual(raised(LaneMap, (), []), (BadLanes, {}))
        self.assertEqual(raised(LaneMap, [], [[]]), (BadLanes, {}))
        self.assertEqual(raised(LaneMap, [0] * 7), (BadLanes, {}))
        self.assertEqual(raised(LaneMap, [0] * 7, [[]] * 7), (BadLanes, {}))
        self.assertEqual(raised(LaneMap, [0] * 2000), (BadLanes, {}))
        for lanes in ALL_LANES:
            self.assertEqual(raised(LaneMap, [0] * lanes), None)

    def test_the_number_of_rows(self):
        for lanes in ALL_LANES:
            for rows in range(1, 9):
                expected = None if rows == lanes else (BadLanes, {})
                self.assertEqual(raised(LaneMap, [0] * lanes, [[]] * rows), expected)
                self.assertEqual(raised(LaneMap, (0,) * lanes, ((),) * rows), expected)

    def test_the_number_of_places(self):
        for lanes in range(2, 7):
            plain = [[(lane, at) for at in range(400)] for lane in range(lanes)]
            rest = 2000 - 400 * (lanes - 1)
            for size in (rest, rest + 1):
                goals = plain[:-1] + [[(lanes - 1, at) for at in range(size)]]
                expected = None if size == rest else (TooWide, {"most": 2000})
                self.assertEqual(raised(LaneMap, [0] * lanes, goals), expected)
        line = [(0, at) for at in range(2001)]
        self.assertEqual(raised(LaneMap, [0], [line[:2000]]), None)
        self.assertEqual(raised(LaneMap, [0], [line]), (TooWide, {"most": 2000}))


class Order(unittest.TestCase):
    def test_bad_lanes_comes_before_all(self):
        wide = [[(0, -1)] * 2000, [(0, -1)]]
        self.assertEqual(raised(LaneMap, [5, 5, 5], wide), (BadLanes, {}))
        self.assertEqual(raised(LaneMap, [1] * 7, [[(9, 9)]] * 7), (BadLanes, {}))

    def test_too_wide_comes_before_bad_goal(self):
        wide = [[(0, -1)] * 2000, [(0, -1)]]
        self.assertEqual(raised(LaneMap, [5, -5], wide), (TooWide, {"most": 2000}))

    def test_bad_goal_comes_before_not_bijective(self):
        self.assertEqual(raised(LaneMap, [1, -1], [[(0, 0)], []]), (BadGoal, {"place": (1, 0)}))
        self.assertEqual(raised(LaneMap, [0, 0], [[(0, 5)], [(1, 0), (2, 0)]]), (BadGoal, {"place": (1, 1)}))


class BadGoals(unittest.TestCase):
    def test_goals_that_are_no_places(self):
        for lanes in ALL_LANES:
            for lane in range(lanes):
                for wrong in ((lanes, 0), (-1, 0), (lane, -1), (FAR, 3), (0, -HUGE), (-HUGE, 1)):
                    rows = [[(other, at) for at in range(4)] for other in range(lanes)]
                    rows[lane][2] = wrong
                    expected = BadGoal, {"place": (lane, 2)}
                    self.assertEqual(raised(LaneMap, [0] * lanes, rows), expected)
                    rows[lanes - 1][3] = (lanes, 1)
                    self.assertEqual(raised(LaneMap, [0] * lanes, rows), expected)

    def test_images_by_the_drift(self):
        for lanes in ALL_LANES:
            for lane in range(lanes):
                drifts = [0] * lanes
                drifts[lane] = -3
                for size in range(3):
                    rows = [[] for other in range(lanes)]
                    rows[lane] = [(0, 0)] * size
                    self.assertEqual(raised(LaneMap, drifts, rows), (BadGoal, {"place": (lane, size)}))
        self.assertEqual(raised(LaneMap, [-HUGE, HUGE]), (BadGoal, {"place": (0, 0)}))
        self.assertEqual(raised(LaneMap, [HUGE, -HUGE]), (BadGoal, {"place": (1, 0)}))
        self.assertEqual(raised(LaneMap, [-2001, 2001], [[(1, 0)] * 2000, []]), (BadGoal, {"place": (0, 2000)}))

    def test_the_drift_of_a_lane_comes_before_the_goals_of_the_next(self):
        self.assertEqual(raised(LaneMap, [-1, 1], [[], [(2, 0)]]), (BadGoal, {"place": (0, 0)}))
        self.assertEqual(raised(LaneMap, [1, -1], [[(2, 0)], []]), (BadGoal, {"place": (0, 0)}))

    def test_a_place_in_the_row_comes_before_the_drift(self):
        self.assertEqual(raised(LaneMap, [-5, 5], [[(1, 0), (1, -1)], []]), (BadGoal, {"place": (0, 1)}))


class NotBijections(unittest.TestCase):
    def test_reached_twice_or_not_at_all(self):
        cases = [
            ([0], [[(0, 1)]], (0, 0)),
            ([0], [[(0, 0), (0, 0)]], (0, 0)),
            ([0], [[(0, 0), (0, 0), (0, 1)]], (0, 0)),
            ([0], [[(0, 0), (0, 2)]], (0, 1)),
            ([0], [[(0, 1), (0, 1)]], (0, 0)),
            ([0, 0], [[(0, 0)], [(1, 0), (0, 0)]], (0, 0)),
            ([0, 0], [[(0, 0)], [(1, 0), (0, 7)]], (0, 7)),
            ([0, 0], [[], [(0, 9), (0, 7), (0, 8)]], (0, 7)),
            ([0, 0], [[(1, 5)], []], (0, 0)),
            ([1, -1], [[], [(1, 0)]], (0, 0)),
            ([1, -1], [[], [(0, 1)]], (0, 0)),
            ([1, -1], [[(0, 0)], [(0, 1)]], None),
            ([1, -1], [[(0, 0)], [(1, 0)]], (0, 1)),
            ([1, -1], [[(0, 0)], [(0, 2)]], (0, 1)),
            ([0, 1, -1], [[], [], [(0, 4)]], (0, 4)),
        ]
        for drifts, goals, place in cases:
            with self.subTest(drifts=drifts, goals=goals):
                expected = None if place is None else (NotBijective, {"place": place})
                self.assertEqual(raised(LaneMap, drifts, goals), expected)

    def test_drifts_that_do_not_sum_to_zero(self):
        for lanes in ALL_LANES:
            for lane in range(lanes):
                for drift in (1, 2, 2001, HUGE):
                    drifts = [0] * lanes
                    drifts[lane] = drift
                    self.assertEqual(raised(LaneMap, drifts), (NotBijective, {"place": (lane, 0)}))
                drifts = [0] * lanes
                drifts[lane] = -1
                rows = [[] for other in range(lanes)]
                rows[lane] = [(0, 0)]
                self.assertEqual(raised(LaneMap, drifts, rows), (NotBijective, {"place": (0, 0)}))

    def test_enormous_numbers(self):
        row = [(0, at) for at in range(1500)]
        self.assertEqual(raised(LaneMap, [HUGE], [row]), (NotBijective, {"place": (0, 1500)}))
        self.assertEqual(raised(LaneMap, [0, HUGE], [[], []]), (NotBijective, {"place": (1, 0)}))
        self.assertEqual(raised(LaneMap, [0], [row + [(0, HUGE)]]), (NotBijective, {"place": (0, 1500)}))
        self.assertEqual(raised(LaneMap, [0], [row[:-1] + [(0, HUGE)]]), (NotBijective, {"place": (0, 1499)}))
        cross = [[(0, 0)], [(1, 0), (0, HUGE), (0, HUGE - 7)]]
        self.assertEqual(raised(LaneMap, [0, 0], cross), (NotBijective, {"place": (0, HUGE - 7)}))
        self.assertEqual(raised(LaneMap, [-1, 10 ** 29], [[(1, 0)], []]), (NotBijective, {"place": (1, 1)}))

    def test_one_wrong_goal_in_a_map(self):
        for lanes in ALL_LANES:
            source = numbers(600 + lanes)
            for turn in range(150):
                drifts, goals = parts(source, lanes)
                full = [lane for lane in range(lanes) if goals[lane]]
                if full:
                    row = goals[source.choice(full)]
                    row[source.randrange(len(row))] = (source.randint(-1, lanes), source.randint(-1, 15))
                with self.subTest(drifts=drifts, goals=goals):
                    self.assertEqual(raised(LaneMap, drifts, goals), refusal(drifts, goals))

    def test_any_small_goals(self):
        seen = {}
        for lanes in ALL_LANES:
            source = numbers(700 + lanes)
            for turn in range(1500):
                drifts = [source.choice((-2, -1, 0, 0, 0, 1, 2)) for lane in range(lanes)]
                drifts[-1] -= source.choice((0, 1)) * sum(drifts)
                goals = []
                for drift in drifts:
                    size = source.randint(0, 1) + max(0, -drift)
                    goals.append([(source.randrange(lanes), source.randint(0, 2)) for at in range(size)])
                with self.subTest(drifts=drifts, goals=goals):
                    expected = refusal(drifts, goals)
                    self.assertEqual(raised(LaneMap, drifts, goals), expected)
                seen[expected and expected[0]] = True
        self.assertIn(NotBijective, seen)
        self.assertIn(None, seen)


if __name__ == "__main__":
    unittest.main()
