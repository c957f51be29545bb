"""The functions identity, swap and lead."""

import unittest

from farlanes.errors import BadLane, BadLanes, BadPlace, TooWide
from farlanes.maps import LaneMap, identity, lead, swap
from tests.samples import FAR, far_places, near_places, raised

ALL_LANES = range(1, 7)
WRONG_LANES = (0, 7, -1, 8, FAR, -FAR)


class Identity(unittest.TestCase):
    def test_it_maps_every_place_to_itself(self):
        for lanes in ALL_LANES:
            made = identity(lanes)
            self.assertIsInstance(made, LaneMap)
            self.assertEqual((made.lanes(), made.drifts(), len(made)), (lanes, [0] * lanes, 0))
            for place in near_places(lanes, 6) + far_places(lanes):
                self.assertEqual(made.goal(place), place)
                self.assertEqual(made.source(place), place)

    def test_errors(self):
        for lanes in WRONG_LANES:
            self.assertEqual(raised(identity, lanes), (BadLanes, {}))

    def test_by_name(self):
        self.assertTrue(identity(lanes=3) == identity(3))


class Swap(unittest.TestCase):
    def test_it_exchanges_two_places(self):
        for lanes in ALL_LANES:
            near = near_places(lanes, 4)
            for one in near:
                for other in near:
                    made = swap(lanes, one, other)
                    self.assertEqual(made.drifts(), [0] * lanes)
                    for place in near_places(lanes, 6) + [(0, FAR)]:
                        expected = {one: other, other: one}.get(place, place)
                        self.assertEqual(made.goal(place), expected)
                        self.assertEqual(made.source(place), expected)

    def test_the_bounds(self):
        self.assertEqual(swap(1, (0, 2), (0, 5)).bounds(), [6])
        self.assertEqual(swap(3, (2, 2), (0, 5)).bounds(), [6, 0, 3])
        self.assertEqual(swap(2, (0, 0), (1, 1)).goals(), [[(1, 1)], [(1, 0), (0, 0)]])

    def test_one_place_twice_is_the_identity(self):
        for lanes in ALL_LANES:
            for at in (0, 3, 1999, 2000, FAR):
                self.assertTrue(swap(lanes, (lanes - 1, at), (lanes - 1, at)) == identity(lanes))

    def test_the_greatest_width(self):
        for lanes in ALL_LANES:
            self.assertEqual(len(swap(lanes, (0, 1999), (0, 0))), 2000)
            self.assertEqual(len(swap(lanes, (0, 1998), (0, 1999))), 2000)
            self.assertEqual(raised(swap, lanes, (0, 2000), (0, 0)), (TooWide, {"most": 2000}))
            self.assertEqual(raised(swap, lanes, (0, 1999), (0, 2000)), (TooWide, {"most": 2000}))
        for lanes in range(2, 7):
            self.assertEqual(len(swap(lanes, (0, 1000), (lanes - 1, 998))), 2000)
            self.assertEqual(raised(swap, lanes, (0, 1000), (lanes - 1, 999)), (TooWide, {"most": 2000}))

    def test_far_places(self):
        for lanes in ALL_LANES:
            self.assertEqual(raised(swap, lanes, (0, FAR), (0, FAR + 1)), (TooWide, {"most": 2000}))
            self.assertEqual(raised(swap, lanes, (0, 0), (lanes - 1, FAR)), (TooWide, {"most": 2000}))

    def test_errors_in_their_order(self):
        for lanes in WRONG_LANES:
            self.assertEqual(raised(swap, lanes, (-1, 0), (0, FAR)), (BadLanes, {}))
            self.assertEqual(raised(swap, lanes, (0, 0), (0, 0)), (BadLanes, {}))
        for lanes in ALL_LANES:
            for wrong in ((lanes, 0), (-1, 0), (0, -1), (lanes - 1, -FAR), (FAR, FAR)):
                expected = BadPlace, {"place": wrong}
                self.assertEqual(raised(swap, lanes, wrong, (0, FAR)), expected)
                self.assertEqual(raised(swap, lanes, (0, FAR), wrong), expected)
                self.assertEqual(raised(swap, lanes, wrong, (lanes + 1, -2)), expected)
                self.assertEqual(raised(swap, lanes, (lanes + 1, -2), wrong), (BadPlace, {"place": (lanes + 1, -2)}))
                self.assertEqual(raised(swap, lanes, wrong, wrong), expected)

    def test_by_name(self):
        self.assertTrue(swap(other=(1, 2), lanes=2, one=(0, 0)) == swap(2, (0, 0), (1, 2)))
        self.assertEqual(raised(swap, other=(1, -2), lanes=2, one=(0, -1)), (BadPlace, {"place": (0, -1)}))


class Lead(unittest.TestCase):
    def test_it_moves_one_place(self):
        for lanes in range(2, 7):
            for source in range(lanes):
                for sink in range(lanes):
                    if source == sink:
                        continue
                    made = lead(lanes, source, sink)
                    for lane, at in near_places(lanes, 5) + far_places(lanes):
                        expected = (lane, at)
                        if lane == source:
                            expected = (source, at - 1) if at else (sink, 0)
                        if lane == sink:
                            expected = (sink, at + 1)
                        self.assertEqual(made.goal((lane, at)), expected)
                        self.assertEqual(made.source(expected), (lane, at))
                    self.assertEqual(len(made), 1)

    def test_errors_in_their_order(self):
        for lanes in WRONG_LANES:
            self.assertEqual(raised(lead, lanes, 0, 1), (BadLanes, {}))
            self.assertEqual(raised(lead, lanes, -5, -5), (BadLanes, {}))
        for lanes in ALL_LANES:
            for wrong in (-1, lanes, FAR, -FAR):
                self.assertEqual(raised(lead, lanes, wrong, 0), (BadLane, {"lane": wrong}))
                self.assertEqual(raised(lead, lanes, 0, wrong), (BadLane, {"lane": wrong}))
                self.assertEqual(raised(lead, lanes, wrong, -7), (BadLane, {"lane": wrong}))
                self.assertEqual(raised(lead, lanes, -7, wrong), (BadLane, {"lane": -7}))
            for lane in range(lanes):
                self.assertEqual(raised(lead, lanes, lane, lane), (BadLane, {"lane": lane}))

    def test_by_name(self):
        self.assertTrue(lead(sink=0, source=2, lanes=3) == lead(3, 2, 0))
        self.assertEqual(raised(lead, sink=5, source=4, lanes=3), (BadLane, {"lane": 4}))


if __name__ == "__main__":
    unittest.main()
