"""cycles, roads and fixed, by walking from place to place."""

import unittest

from farlanes.algebra import inverse
from farlanes.maps import LaneMap, identity, lead, swap
from farlanes.orbits import cycles, fixed, roads
from tests.samples import carried, is_tail, inner_places, rich_maps, slow_finite, slow_roads, turned

ALL_LANES = range(1, 7)


class FiniteOrbits(unittest.TestCase):
    def test_by_walking(self):
        lengths, several = {}, 0
        for lanes in ALL_LANES:
            for made in rich_maps(80, lanes, 20):
                finite = slow_finite(made)
                self.assertEqual(cycles(made), [orbit for orbit in finite if len(orbit) > 1])
                self.assertEqual(fixed(made), [orbit[0] for orbit in finite if len(orbit) == 1])
                lengths.update({len(orbit): True for orbit in finite})
                several += len(cycles(made)) > 2
        self.assertTrue({1, 2, 3, 4, 6} <= set(lengths))
        self.assertGreater(several, 20)

    def test_the_order_and_the_kinds_of_values(self):
        for lanes in ALL_LANES:
            for made in rich_maps(81, lanes, 10):
                rows = cycles(made)
                self.assertIsInstance(rows, list)
                self.assertEqual([row[0] for row in rows], sorted(row[0] for row in rows))
                for row in rows:
                    self.assertIsInstance(row, list)
                    self.assertGreaterEqual(len(row), 2)
                    self.assertEqual(row[0], min(row))
                    self.assertEqual([made.goal(place) for place in row], row[1:] + row[:1])
                self.assertIsInstance(fixed(made), list)
                self.assertEqual(fixed(made), sorted(fixed(made)))
                self.assertEqual([made.goal(place) for place in fixed(made)], fixed(made))

    def test_each_inner_place_belongs_to_one_orbit(self):
        for lanes in ALL_LANES:
            for made in rich_maps(82, lanes, 10):
                on_cycles = [place for row in cycles(made) for place in row]
                on_roads = [place for row in roads(made) for place in row if not is_tail(made, place)]
                self.assertEqual(sorted(on_cycles + on_roads + fixed(made)), inner_places(made))

    def test_some_maps(self):
        self.assertEqual((cycles(identity(3)), fixed(identity(3)), roads(identity(3))), ([], [], []))
        made = LaneMap([0], [[(0, 3), (0, 1), (0, 4), (0, 0), (0, 2)]])
        self.assertEqual(cycles(made), [[(0, 0), (0, 3)], [(0, 2), (0, 4)]])
        self.assertEqual(fixed(made), [(0, 1)])
        made = LaneMap([0, 0], [[(1, 1)], [(0, 0), (1, 0)]])
        self.assertEqual(cycles(made), [[(0, 0), (1, 1), (1, 0)]])
        self.assertEqual(fixed(swap(2, (0, 3), (1, 0))), [(0, 0), (0, 1), (0, 2)])
        self.assertEqual(cycles(swap(2, (1, 0), (0, 3))), [[(0, 3), (1, 0)]])

    def test_tail_places_of_a_lane_without_drift_are_not_listed(self):
        made = LaneMap([0, 1, -1], [[], [], [(2, 0), (1, 0)]])
        self.assertEqual((cycles(made), fixed(made)), ([], [(2, 0)]))

    def test_the_longest_cycle(self):
        made = turned(1, 0, 2000)
        self.assertEqual(cycles(made), [[(0, at) for at in range(2000)]])
        self.assertEqual(len(cycles(turned(2, 1, 2000, 1000))), 1000)


class Roads(unittest.TestCase):
    def test_by_walking(self):
        most = 0
        for lanes in ALL_LANES:
            for made in rich_maps(83, lanes, 25):
                expected = slow_roads(made)
                self.assertEqual(roads(made), expected)
                self.assertEqual(len(expected), sum(max(0, drift) for drift in made.drifts()))
                most = max(most, len(expected))
        self.assertEqual(most, 14)

    def test_from_the_entry_to_the_exit(self):
        for lanes in ALL_LANES:
            for made in rich_maps(84, lanes, 15):
                drifts, bounds = made.drifts(), made.bounds()
                rows = roads(made)
                self.assertIsInstance(rows, list)
                for row in rows:
                    self.assertIsInstance(row, list)
                    self.assertEqual([made.goal(place) for place in row[:-1]], row[1:])
                    self.assertTrue(is_tail(made, row[0]) and drifts[row[0][0]] < 0)
                    self.assertTrue(is_tail(made, row[-1]) and drifts[row[-1][0]] > 0)
                    self.assertFalse(any(is_tail(made, place) for place in row[1:-1]))
                ways_in = [(lane, b + k) for lane, b in enumerate(bounds) for k in range(-drifts[lane])]
                ways_out = [(lane, b + k) for lane, b in enumerate(bounds) for k in range(drifts[lane])]
                self.assertEqual([row[0] for row in rows], ways_in)
                self.assertEqual(sorted(row[-1] for row in rows), ways_out)

    def test_of_one_lane(self):
        for lanes in ALL_LANES:
            for made in rich_maps(85, lanes, 15):
                for lane, drift in enumerate(made.drifts()):
                    mine = roads(made, lane=lane)
                    self.assertEqual(mine, [row for row in slow_roads(made) if row[0][0] == lane])
                    self.assertEqual(len(mine), max(0, -drift))
                for lane in (-1, lanes, -lanes, 10 ** 29, -10 ** 29):
                    self.assertEqual(roads(made, lane=lane), [])
                self.assertEqual(roads(made, lane=None), roads(made))

    def test_of_the_inverse(self):
        for lanes in ALL_LANES:
            for made in rich_maps(86, lanes, 15):
                back = inverse(made)
                # The bounds of the inverse are one step further, so its roads begin and end one place earlier.
                backwards = [[made.goal(row[-1])] + row[:0:-1] for row in roads(made)]
                self.assertEqual(roads(back), sorted(backwards))
                turned_round = [row[:1] + row[:0:-1] for row in cycles(made)]
                self.assertEqual(cycles(back), turned_round)
                self.assertEqual([place for place in fixed(back) if place in inner_places(made)],
                                 [place for place in fixed(made) if place in inner_places(back)])

    def test_some_maps(self):
        self.assertEqual(roads(lead(3, 2, 0)), [[(2, 1), (2, 0), (0, 0)]])
        made = LaneMap([2, -3, 1], [[(2, 0), (0, 0)], [(0, 3), (0, 1), (2, 1), (0, 2)], [(1, 0)]])
        self.assertEqual(roads(made), [
            [(1, 4), (1, 1), (0, 1), (0, 0), (2, 0), (1, 0), (0, 3)],
            [(1, 5), (1, 2), (2, 1)],
            [(1, 6), (1, 3), (0, 2)],
        ])
        self.assertEqual([len(row) for row in roads(carried(2, 0, 1, 2000))], [3] * 2000)


class Calls(unittest.TestCase):
    def test_by_name(self):
        made = lead(2, 0, 1)
        self.assertEqual(cycles(lane_map=made), [])
        self.assertEqual(fixed(lane_map=made), [])
        self.assertEqual(roads(lane_map=made), roads(made))
        self.assertEqual(roads(lane=0, lane_map=made), roads(made))
        with self.assertRaises(TypeError):
            roads(made, 0)

    def test_returned_lists_are_new(self):
        for lanes in ALL_LANES:
            for made in rich_maps(87, lanes, 5):
                for ask in (cycles, fixed, roads, lambda given: roads(given, lane=0)):
                    before = ask(made)
                    changed = ask(made)
                    for row in changed:
                        if isinstance(row, list):
                            row.append((0, 0))
                            row[0] = (9, 9)
                    changed.append([(0, 0)])
                    self.assertEqual(ask(made), before)
                    self.assertIsNot(ask(made), ask(made))


if __name__ == "__main__":
    unittest.main()
