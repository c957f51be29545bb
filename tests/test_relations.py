"""order and exponent."""

import math
import unittest

from farlanes.algebra import compose, inverse
from farlanes.errors import OtherLanes
from farlanes.maps import identity, lead, swap
from farlanes.relations import exponent, order
from farlanes.travel import power
from tests.samples import (
    FAR, carried, numbers, raised, rich_maps, ringed, shuffled, slow_finite, told, turned, with_cycles,
)

ALL_LANES = range(1, 7)


def still_maps(seed, lanes, many):
    """Maps without drifts, with several cycles of several lengths."""
    source = numbers(seed * 10 + lanes)
    made = []
    for turn in range(many):
        lengths = [source.choice((2, 3, 4, 5, 6)) for each in range(source.randint(0, 4))]
        made.append(with_cycles(source, shuffled(source, lanes, 2), lengths))
    return made


def slow_order(made):
    return math.lcm(*[len(orbit) for orbit in slow_finite(made)])


class Order(unittest.TestCase):
    def test_maps_without_drifts(self):
        for lanes in ALL_LANES:
            for made in still_maps(130, lanes, 15):
                least = order(made)
                self.assertEqual(least, slow_order(made))
                self.assertTrue(power(made, least) == identity(lanes))
                powers = [power(made, k) == identity(lanes) for k in range(1, min(least, 60))]
                self.assertFalse(any(powers))

    def test_maps_with_drifts(self):
        for lanes in range(2, 7):
            for made in rich_maps(131, lanes, 10):
                self.assertEqual(order(made) is None, any(made.drifts()))
            self.assertIsNone(order(lead(lanes, 0, lanes - 1)))

    def test_some_maps(self):
        for lanes in ALL_LANES:
            self.assertEqual(order(identity(lanes)), 1)
            self.assertEqual(order(swap(lanes, (0, 0), (lanes - 1, 7))), 2)
            self.assertEqual(order(turned(lanes, lanes - 1, 2000)), 2000)
        lengths = [4, 6, 9, 25, 49, 11, 13, 17, 19, 23]
        self.assertEqual(order(ringed(lengths)[0]), 36 * 25 * 49 * 11 * 13 * 17 * 19 * 23)


class Exponent(unittest.TestCase):
    def test_powers_of_maps_without_drifts(self):
        for lanes in ALL_LANES:
            for base in still_maps(132, lanes, 8):
                for count in (-7, -1, 0, 1, 2, 5, 12, 10 ** 18, FAR, -FAR):
                    expected = ("every", count % slow_order(base), slow_order(base))
                    self.assertEqual(exponent(base, power(base, count)), expected)

    def test_powers_of_maps_with_drifts(self):
        for lanes in range(2, 7):
            for base in rich_maps(133, lanes, 10):
                if any(base.drifts()):
                    for count in (-7, -2, -1, 0, 1, 2, 3, 9):
                        self.assertEqual(exponent(base, power(base, count)), ("once", count))

    def test_great_powers_of_a_map_with_drifts(self):
        for lanes in range(2, 7):
            base = compose(lead(lanes, 0, lanes - 1), swap(lanes, (0, 1), (lanes - 1, 2)))
            for count in (500, 1900, -1900):
                self.assertEqual(exponent(base, power(base, count)), ("once", count))

    def test_powers_with_two_places_exchanged(self):
        for lanes in ALL_LANES:
            for base in still_maps(134, lanes, 5) + rich_maps(134, lanes, 6):
                for count in (-2, 0, 1, 3):
                    there = power(base, count)
                    for one, other in (((0, 0), (lanes - 1, 9)), ((0, 1), (0, 2)), ((lanes - 1, 30), (0, 31))):
                        near = compose(there, swap(lanes, one, other))
                        tried = [k for k in range(-40, 41) if self.small(base, k) == near]
                        self.assertEqual(self.counts(exponent(base, near)), tried)

    def small(self, base, count):
        """A power, or None where the drifts forbid a width that a test compares with."""
        return None if any(base.drifts()) and abs(count) > 12 else power(base, count)

    def counts(self, moment):
        if moment is None:
            return []
        if moment[0] == "once":
            return [moment[1]]
        return [k for k in range(-40, 41) if k % moment[2] == moment[1]]

    def test_any_two_maps(self):
        for lanes in ALL_LANES:
            made = still_maps(135, lanes, 5) + rich_maps(135, lanes, 6, 3) + [identity(lanes)]
            for base in made:
                for other in made:
                    tried = [k for k in range(-40, 41) if self.small(base, k) == other]
                    self.assertEqual(self.counts(exponent(base, other)), tried)

    def test_the_identity(self):
        for lanes in ALL_LANES:
            self.assertEqual(exponent(identity(lanes), identity(lanes)), ("every", 0, 1))
            self.assertIsNone(exponent(identity(lanes), swap(lanes, (0, 0), (0, 1))))
            self.assertEqual(exponent(swap(lanes, (0, 0), (0, 1)), identity(lanes)), ("every", 0, 2))
        self.assertEqual(exponent(lead(2, 0, 1), identity(2)), ("once", 0))
        self.assertIsNone(exponent(identity(2), lead(2, 0, 1)))

    def test_drifts_that_do_not_fit(self):
        two = carried(2, 0, 1, 2)
        self.assertIsNone(exponent(two, carried(2, 0, 1, 3)))
        self.assertIsNone(exponent(two, lead(2, 0, 1)))
        self.assertIsNone(exponent(lead(3, 0, 1), lead(3, 0, 2)))
        self.assertIsNone(exponent(swap(2, (0, 0), (1, 0)), lead(2, 0, 1)))
        self.assertIsNone(exponent(lead(2, 0, 1), swap(2, (0, 0), (1, 0))))
        self.assertEqual(exponent(lead(2, 0, 1), lead(2, 1, 0)), ("once", -1))

    def test_powers_that_are_too_wide(self):
        for lanes in range(2, 7):
            base = compose(lead(lanes, 0, 1), swap(lanes, (0, 900), (1, 900)))
            self.assertIsNone(exponent(base, carried(lanes, 0, 1, 1500)))
            self.assertIsNone(exponent(base, carried(lanes, 1, 0, 2000)))

    def test_wide_maps(self):
        base = turned(2, 1, 2000)
        self.assertEqual(exponent(base, power(base, 1234)), ("every", 1234, 2000))
        self.assertIsNone(exponent(base, turned(2, 0, 2000)))

    def test_other_numbers_of_lanes(self):
        for lanes in ALL_LANES:
            for others in ALL_LANES:
                one, other = rich_maps(136, lanes, 2)[1], rich_maps(137, others, 2)[0]
                expected = None if lanes == others else (OtherLanes, {})
                self.assertEqual(raised(exponent, one, other), expected)
                self.assertEqual(raised(exponent, other, one), expected)


class Calls(unittest.TestCase):
    def test_by_name(self):
        made = swap(1, (0, 0), (0, 2))
        self.assertEqual(order(lane_map=made), 2)
        self.assertEqual(exponent(lane_map=inverse(made), base=made), ("every", 1, 2))
        self.assertEqual(exponent(lane_map=identity(1), base=turned(1, 0, 3)), ("every", 0, 3))
        self.assertIsNone(exponent(lane_map=turned(1, 0, 3), base=identity(1)))

    def test_nothing_changes(self):
        for lanes in ALL_LANES:
            for base in rich_maps(138, lanes, 5):
                other = power(base, 3)
                before = told(base), told(other)
                answers = order(base), exponent(base, other), exponent(other, base)
                self.assertEqual((told(base), told(other)), before)
                self.assertEqual((order(base), exponent(base, other), exponent(other, base)), answers)


if __name__ == "__main__":
    unittest.main()
