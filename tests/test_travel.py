"""advance and power: small counts step by step, great ones by adding up."""

import unittest

from farlanes.algebra import compose, inverse
from farlanes.errors import BadPlace, TooWide
from farlanes.maps import LaneMap, identity, lead, swap
from farlanes.orbits import roads
from farlanes.travel import advance, power
from tests.samples import (
    FAR, carried, far_places, near_places, noted_places, numbers, raised, rich_maps, shuffled, told, turned, walked,
    with_cycles,
)

ALL_LANES = range(1, 7)
GREAT = (10 ** 6, 10 ** 18 - 1, FAR, -10 ** 6, -10 ** 18, -FAR)
WIDE = (TooWide, {"most": 2000})


class Advance(unittest.TestCase):
    def test_small_counts(self):
        for lanes in ALL_LANES:
            for made in rich_maps(100, lanes, 8):
                for place in noted_places(made):
                    for count in (-9, -3, -2, -1, 0, 1, 2, 3, 7, 12):
                        there = advance(made, place, count=count)
                        self.assertEqual(there, walked(made, place, count))
                        self.assertIsInstance(there, tuple)

    def test_the_count_left_out(self):
        for lanes in ALL_LANES:
            for made in rich_maps(101, lanes, 8):
                for place in noted_places(made):
                    self.assertEqual(advance(made, place), made.goal(place))

    def test_steps_add_up_and_are_taken_back(self):
        for lanes in ALL_LANES:
            for made in rich_maps(102, lanes, 6):
                for place in noted_places(made):
                    for count in GREAT:
                        there = advance(made, place, count=count)
                        self.assertEqual(advance(made, there, count=-count), place)
                        self.assertEqual(advance(made, there, count=5 - count), walked(made, place, 5))
                        self.assertEqual(advance(made, there), advance(made, place, count=count + 1))
                        self.assertEqual(advance(inverse(made), place, count=-count), there)

    def test_great_counts_by_the_drifts(self):
        for lanes in range(2, 7):
            for made in rich_maps(103, lanes, 8):
                for row in roads(made):
                    (lane, at), (sink, end) = row[0], row[-1]
                    for count in (10 ** 18, FAR):
                        further = (sink, end + made.drifts()[sink] * (count - len(row) + 1))
                        self.assertEqual(advance(made, row[0], count=count), further)
                        earlier = (lane, at - made.drifts()[lane] * count)
                        self.assertEqual(advance(made, row[0], count=-count), earlier)

    def test_round_and_round(self):
        made = turned(1, 0, 7)
        self.assertEqual(advance(made, (0, 3), count=FAR), (0, (3 + FAR) % 7))
        self.assertEqual(advance(made, (0, 3), count=-FAR), (0, (3 - FAR) % 7))
        self.assertEqual(advance(made, (0, 7), count=FAR), (0, 7))

    def test_what_is_no_place(self):
        for lanes in ALL_LANES:
            for made in rich_maps(104, lanes, 3):
                for wrong in ((lanes, 0), (-1, 0), (0, -1), (lanes - 1, -FAR), (FAR, 0)):
                    for count in (0, 1, -FAR):
                        self.assertEqual(raised(advance, made, wrong, count=count), (BadPlace, {"place": wrong}))


class Power(unittest.TestCase):
    def test_small_exponents(self):
        for lanes in ALL_LANES:
            for made in rich_maps(105, lanes, 15):
                up = down = identity(lanes)
                for exponent in range(8):
                    self.assertTrue(power(made, exponent) == up)
                    self.assertTrue(power(made, -exponent) == down)
                    up, down = compose(up, made), compose(down, inverse(made))

    def test_zero_and_one(self):
        for lanes in ALL_LANES:
            for made in rich_maps(106, lanes, 15):
                self.assertTrue(power(made, 0) == identity(lanes))
                self.assertTrue(power(made, 1) == made)
                self.assertTrue(power(made, -1) == inverse(made))
                self.assertIsInstance(power(made, 3), LaneMap)

    def test_place_by_place(self):
        for lanes in ALL_LANES:
            for made in rich_maps(107, lanes, 8):
                for exponent in (-11, 4, 13):
                    result = power(made, exponent)
                    self.assertEqual(result.drifts(), [drift * exponent for drift in made.drifts()])
                    for place in near_places(lanes, 20) + far_places(lanes):
                        self.assertEqual(result.goal(place), walked(made, place, exponent))

    def test_great_exponents_without_drifts(self):
        for lanes in ALL_LANES:
            source = numbers(108 + lanes)
            for turn in range(6):
                made = with_cycles(source, shuffled(source, lanes, 3), [2, 3, 4, 5, 7])
                for exponent in GREAT:
                    result = power(made, exponent)
                    for place in near_places(lanes, 25):
                        self.assertEqual(result.goal(place), advance(made, place, count=exponent))
                    self.assertTrue(compose(result, power(made, 3 - exponent)) == power(made, 3))

    def test_exactly_the_greatest_width(self):
        for lanes in range(2, 7):
            last = lanes - 1
            for step, exponent in ((1, 2000), (2, 1000), (5, 400), (1000, 2), (2000, 1)):
                made = carried(lanes, 0, last, step)
                self.assertEqual(len(power(made, exponent)), 2000)
                self.assertEqual(len(power(made, -exponent)), 2000)
                self.assertEqual(raised(power, made, exponent + 1), WIDE)
                self.assertEqual(raised(power, made, -exponent - 1), WIDE)

    def test_wider_than_the_drifts_alone_ask_for(self):
        for lanes in range(2, 7):
            made = compose(carried(lanes, 0, 1, 11), swap(lanes, (1, 40), (0, 30)))
            exponent, result = 1, made
            while raised(compose, result, made) is None:
                exponent, result = exponent + 1, compose(result, made)
            self.assertLess(11 * (exponent + 1), 2000)
            self.assertTrue(power(made, exponent) == result)
            self.assertTrue(power(made, -exponent) == inverse(result))
            self.assertEqual(raised(power, made, exponent + 1), WIDE)
            self.assertEqual(raised(power, made, -exponent - 1), WIDE)

    def test_a_wide_map_with_narrow_powers(self):
        for lanes in ALL_LANES:
            made = turned(lanes, lanes - 1, 2000)
            self.assertEqual(len(power(made, 10 ** 29 + 7)), 2000)
            self.assertTrue(power(made, 2000 * 10 ** 25) == identity(lanes))
            self.assertTrue(power(made, 2000 * 10 ** 25 + 1) == made)

    def test_great_exponents_with_drifts(self):
        for lanes in range(2, 7):
            for made in rich_maps(109, lanes, 8):
                if any(made.drifts()):
                    for exponent in GREAT + (2001, -2001):
                        self.assertEqual(raised(power, made, exponent), WIDE)
                    self.assertEqual(power(made, 0).goals(), [[] for lane in range(lanes)])


class Calls(unittest.TestCase):
    def test_by_name(self):
        made = lead(2, 0, 1)
        self.assertEqual(advance(count=3, place=(0, 1), lane_map=made), (1, 1))
        self.assertEqual(advance(place=(0, 1), lane_map=made), (0, 0))
        self.assertTrue(power(exponent=2, lane_map=made) == compose(made, made))
        with self.assertRaises(TypeError):
            advance(made, (0, 1), 3)

    def test_nothing_changes(self):
        for lanes in ALL_LANES:
            for made in rich_maps(110, lanes, 5):
                before = told(made)
                results = [power(made, exponent) for exponent in (-2, 0, 1, 3)]
                kept = [told(result) for result in results]
                raised(advance, made, (lanes, 0))
                raised(power, made, FAR)
                for result in results + [made]:
                    for row in result.goals():
                        row.append((0, 0))
                    result.drifts()[0] = 50
                self.assertEqual([told(result) for result in results], kept)
                self.assertEqual(told(made), before)
                self.assertTrue(power(made, 3) == results[3])


if __name__ == "__main__":
    unittest.main()
