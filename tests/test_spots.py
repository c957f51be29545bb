"""spot and place_at: each takes the other back, near and far."""

import unittest

from farlanes.errors import BadPlace, BadSpot
from farlanes.maps import LaneMap, identity, lead, swap
from farlanes.orbits import cycles, fixed, place_at, roads, spot
from tests.samples import FAR, far_places, noted_places, raised, rich_maps, slow_finite, slow_roads, told, walked

ALL_LANES = range(1, 7)
INDEXES = (-7, -1, 0, 1, 2, 3, 8, 10 ** 6, 10 ** 18, FAR, -10 ** 6, -10 ** 18, -FAR)


def far_road_place(made, row, index):
    """The place of a road in front of its entry or behind its exit, by the drifts."""
    near = 0 if index < 0 else len(row) - 1
    lane, at = row[near]
    return (lane, at + made.drifts()[lane] * (index - near))


class Spots(unittest.TestCase):
    def test_of_all_listed_places(self):
        for lanes in ALL_LANES:
            for made in rich_maps(90, lanes, 15):
                rings = [orbit for orbit in slow_finite(made) if len(orbit) > 1]
                for kind, rows in (("road", slow_roads(made)), ("cycle", rings)):
                    for number, row in enumerate(rows):
                        for index, place in enumerate(row):
                            self.assertEqual(spot(made, place), (kind, number, index))
                            self.assertEqual(place_at(made, (kind, number, index)), place)
                for lane, at in [orbit[0] for orbit in slow_finite(made) if len(orbit) == 1]:
                    self.assertEqual(spot(made, (lane, at)), ("fixed", lane, at))
                    self.assertEqual(place_at(made, ("fixed", lane, at)), (lane, at))

    def test_each_takes_the_other_back(self):
        kinds = {}
        for lanes in ALL_LANES:
            for made in rich_maps(91, lanes, 15):
                for place in noted_places(made):
                    there = spot(made, place)
                    self.assertIsInstance(there, tuple)
                    self.assertEqual(place_at(made, there), place)
                    kinds[there[0]] = True
        self.assertEqual(sorted(kinds), ["cycle", "fixed", "road"])

    def test_far_places_by_the_drifts(self):
        for lanes in ALL_LANES:
            for made in rich_maps(92, lanes, 15):
                rows, drifts = slow_roads(made), made.drifts()
                for lane, at in far_places(lanes):
                    kind, number, index = spot(made, (lane, at))
                    if drifts[lane] == 0:
                        self.assertEqual((kind, number, index), ("fixed", lane, at))
                    else:
                        self.assertEqual(kind, "road")
                        self.assertEqual(index < 0, drifts[lane] < 0)
                        self.assertEqual(far_road_place(made, rows[number], index), (lane, at))

    def test_the_next_place_has_the_next_index(self):
        for lanes in ALL_LANES:
            for made in rich_maps(93, lanes, 15):
                for place in noted_places(made):
                    kind, number, index = spot(made, place)
                    if kind == "road":
                        index += 1
                    if kind == "cycle":
                        index = (index + 1) % len(cycles(made)[number])
                    self.assertEqual(spot(made, made.goal(place)), (kind, number, index))

    def test_no_two_places_have_one_spot(self):
        for lanes in ALL_LANES:
            for made in rich_maps(94, lanes, 10):
                places = sorted(set(noted_places(made)))
                self.assertEqual(len({spot(made, place) for place in places}), len(places))


class Places(unittest.TestCase):
    def test_indexes_of_roads(self):
        for lanes in ALL_LANES:
            for made in rich_maps(95, lanes, 15):
                for number, row in enumerate(slow_roads(made)):
                    for index in INDEXES:
                        place = place_at(made, ("road", number, index))
                        self.assertIsInstance(place, tuple)
                        self.assertEqual(spot(made, place), ("road", number, index))
                        if abs(index) < 10:
                            self.assertEqual(place, walked(made, row[0], index))
                        else:
                            self.assertEqual(place, far_road_place(made, row, index))

    def test_fixed_places_of_a_lane_without_drift(self):
        made = LaneMap([0, 1, -1], [[(0, 1), (0, 0)], [], [(2, 0), (1, 0)]])
        for at in (2, 3, 10 ** 6, FAR):
            self.assertEqual(place_at(made, ("fixed", 0, at)), (0, at))
            self.assertEqual(spot(made, (0, at)), ("fixed", 0, at))
        self.assertEqual(place_at(made, ("fixed", 2, 0)), (2, 0))

    def test_far_indexes(self):
        self.assertEqual(place_at(lead(2, 0, 1), ("road", 0, FAR)), (1, FAR - 2))
        self.assertEqual(place_at(lead(2, 0, 1), ("road", 0, -FAR)), (0, FAR + 1))


class Refused(unittest.TestCase):
    def test_what_is_no_place(self):
        for lanes in ALL_LANES:
            for made in rich_maps(96, lanes, 3):
                for wrong in ((lanes, 0), (-1, 0), (0, -1), (lanes - 1, -FAR), (FAR, 0), (-FAR, -FAR)):
                    self.assertEqual(raised(spot, made, wrong), (BadPlace, {"place": wrong}))

    def refuses(self, made, wrong):
        self.assertEqual(raised(place_at, made, wrong), (BadSpot, {"spot": wrong}))

    def test_roads_and_cycles_that_do_not_exist(self):
        for lanes in ALL_LANES:
            for made in rich_maps(97, lanes, 10):
                for index in INDEXES:
                    for number in (-1, -len(roads(made)) - 1, len(roads(made)), FAR, -FAR):
                        self.refuses(made, ("road", number, index))
                    for number in (-1, -len(cycles(made)) - 1, len(cycles(made)), FAR, -FAR):
                        self.refuses(made, ("cycle", number, index))

    def test_indexes_of_cycles(self):
        for lanes in ALL_LANES:
            for made in rich_maps(98, lanes, 10):
                for number, row in enumerate(cycles(made)):
                    for index in (-1, -len(row), len(row), FAR, -FAR):
                        self.refuses(made, ("cycle", number, index))
                    self.assertEqual(place_at(made, ("cycle", number, len(row) - 1)), row[-1])

    def test_fixed_places_that_are_no_places_or_not_fixed(self):
        for lanes in ALL_LANES:
            for made in rich_maps(99, lanes, 10):
                for lane, at in ((lanes, 0), (-1, 0), (0, -1), (lanes - 1, -FAR), (FAR, 3), (-FAR, 3)):
                    self.refuses(made, ("fixed", lane, at))
                for lane, at in noted_places(made):
                    if made.goal((lane, at)) == (lane, at):
                        self.assertEqual(place_at(made, ("fixed", lane, at)), (lane, at))
                    else:
                        self.refuses(made, ("fixed", lane, at))

    def test_maps_without_roads_or_cycles(self):
        self.refuses(identity(2), ("road", 0, 0))
        self.refuses(identity(2), ("cycle", 0, 0))
        self.refuses(lead(2, 0, 1), ("cycle", 0, 0))
        self.refuses(swap(1, (0, 0), (0, 1)), ("cycle", 0, 2))


class Calls(unittest.TestCase):
    def test_by_name(self):
        made = lead(2, 0, 1)
        self.assertEqual(spot(place=(0, 5), lane_map=made), ("road", 0, -4))
        self.assertEqual(place_at(spot=("road", 0, 3), lane_map=made), (1, 1))

    def test_nothing_changes(self):
        for lanes in ALL_LANES:
            for made in rich_maps(89, lanes, 5):
                before = told(made)
                answers = [spot(made, place) for place in noted_places(made)]
                raised(spot, made, (lanes, 0))
                raised(place_at, made, ("road", -1, 0))
                for row in roads(made) + cycles(made) + [fixed(made)]:
                    row.clear()
                self.assertEqual(told(made), before)
                self.assertEqual([spot(made, place) for place in noted_places(made)], answers)
                self.assertEqual([place_at(made, there) for there in answers], noted_places(made))


if __name__ == "__main__":
    unittest.main()
