"""moments and first_moment, against walking and advance."""

import unittest

from farlanes.errors import BadPlace
from farlanes.maps import LaneMap, identity, lead
from farlanes.moments import first_moment, moments
from farlanes.orbits import cycles, fixed, roads
from farlanes.travel import advance
from tests.samples import (
    FAR, far_places, inner_places, noted_places, numbers, raised, rich_maps, ringed, shuffled, told, turned,
    walked, with_cycles,
)

ALL_LANES = range(1, 7)
ALWAYS = ("every", 0, 1)
GREAT = (0, 1, -1, 10 ** 6, 10 ** 18, FAR, -10 ** 18, -FAR)


def small_counts(made, pairs, reach):
    """The counts up to a small size that move each start to its goal, one by one."""
    return [k for k in range(-reach, reach + 1) if all(walked(made, start, k) == goal for start, goal in pairs)]


def counts_of(moment, reach):
    """The counts up to a small size that a moment describes."""
    if moment is None:
        return []
    if moment[0] == "once":
        return [k for k in range(-reach, reach + 1) if k == moment[1]]
    return [k for k in range(-reach, reach + 1) if k % moment[2] == moment[1]]


class OnePair(unittest.TestCase):
    def test_all_pairs_of_small_maps(self):
        for lanes in ALL_LANES:
            for made in rich_maps(120, lanes, 4, 3):
                places = inner_places(made)[:9] + [(lane, bound) for lane, bound in enumerate(made.bounds())]
                for start in places:
                    for goal in places:
                        moment = moments(made, [(start, goal)])
                        self.assertEqual(counts_of(moment, 15), small_counts(made, [(start, goal)], 15))

    def test_on_roads_and_cycles(self):
        for lanes in ALL_LANES:
            for made in rich_maps(121, lanes, 8):
                for row in roads(made):
                    for count in GREAT:
                        goal = advance(made, row[1], count=count)
                        self.assertEqual(moments(made, [(row[1], goal)]), ("once", count))
                        self.assertEqual(moments(made, [(goal, row[1])]), ("once", -count))
                        self.assertEqual(first_moment(made, [(row[1], goal)]), count if count >= 0 else None)
                for row in cycles(made):
                    for count in GREAT:
                        goal = advance(made, row[1], count=count)
                        expected = ("every", count % len(row), len(row))
                        self.assertEqual(moments(made, [(row[1], goal)]), expected)
                        self.assertEqual(first_moment(made, [(row[1], goal)]), count % len(row))

    def test_on_fixed_places(self):
        for lanes in ALL_LANES:
            for made in rich_maps(122, lanes, 8):
                far = [place for place in far_places(lanes) if made.drifts()[place[0]] == 0]
                for place in fixed(made) + far:
                    self.assertEqual(moments(made, [(place, place)]), ALWAYS)
                    for other in noted_places(made):
                        if other != place:
                            self.assertIsNone(moments(made, [(place, other)]))
                            self.assertIsNone(moments(made, [(other, place)]))
                            self.assertIsNone(first_moment(made, [(place, other)]))

    def test_on_unlike_orbits(self):
        for lanes in ALL_LANES:
            for made in rich_maps(123, lanes, 6):
                rows = roads(made) + cycles(made)
                for at, row in enumerate(rows):
                    for other in rows[:at] + rows[at + 1:]:
                        self.assertIsNone(moments(made, [(row[0], other[0])]))
                        self.assertIsNone(first_moment(made, [(row[-1], other[-1])]))


class SeveralPairs(unittest.TestCase):
    def test_no_pairs(self):
        for lanes in ALL_LANES:
            for made in rich_maps(124, lanes, 3):
                for none in ([], ()):
                    self.assertEqual(moments(made, none), ALWAYS)
                    self.assertEqual(first_moment(made, none), 0)

    def test_that_agree_on_one_count(self):
        for lanes in ALL_LANES:
            source = numbers(125 + lanes)
            for made in rich_maps(125, lanes, 12):
                starts = [row[0] for row in roads(made) + cycles(made)] + fixed(made)
                for count in GREAT:
                    pairs = [(start, advance(made, start, count=count)) for start in starts]
                    for turn in range(3):
                        moment = moments(made, pairs)
                        self.assertEqual(moment, moments(made, tuple(pairs)))
                        if roads(made):
                            self.assertEqual(moment, ("once", count))
                        else:
                            word, first, period = moment
                            self.assertEqual(word, "every")
                            self.assertEqual(first, count % period)
                            for row in cycles(made):
                                self.assertEqual(period % len(row), 0)
                        source.shuffle(pairs)

    def test_drawn_pairs_of_cycles(self):
        found = {}
        for lanes in ALL_LANES:
            source = numbers(126 + lanes)
            for turn in range(25):
                made = with_cycles(source, shuffled(source, lanes, 2), [2, 3, 4, 6, 6])
                rows = source.sample(cycles(made), source.randint(1, min(3, len(cycles(made)))))
                pairs = [(source.choice(row), source.choice(row)) for row in rows]
                moment = moments(made, pairs)
                self.assertEqual(counts_of(moment, 30), small_counts(made, pairs, 30))
                self.assertEqual(moment, moments(made, pairs[::-1]))
                found[moment is None] = True
                if moment is not None:
                    self.assertTrue(0 <= moment[1] < moment[2])
                    self.assertEqual(first_moment(made, pairs), moment[1])
                else:
                    self.assertIsNone(first_moment(made, pairs))
        self.assertEqual(sorted(found), [False, True])

    def test_that_do_not_agree(self):
        made, (two, four, three) = ringed([2, 4, 3])
        odd, even = ((0, two), (0, two + 1)), ((0, four), (0, four + 2))
        self.assertIsNone(moments(made, [odd, even]))
        self.assertIsNone(moments(made, [even, odd]))
        self.assertIsNone(moments(made, [even, ((0, three), (0, three + 1)), odd]))
        self.assertIsNone(first_moment(made, [odd, even]))
        self.assertEqual(moments(made, [even, ((0, three), (0, three + 1))]), ("every", 10, 12))
        self.assertEqual(moments(made, [even, even]), ("every", 2, 4))

    def test_a_road_with_a_cycle(self):
        made = LaneMap([-1, 1], [[(0, 1), (0, 2), (0, 0), (1, 0)], []])
        for step in (-9, -3, 0, 3, 6, FAR - FAR % 3):
            for more in (0, 1, 2):
                road = ((0, 4), advance(made, (0, 4), count=step + more))
                ring = ((0, 0), (0, more))
                self.assertEqual(moments(made, [road, ring]), ("once", step + more))
                self.assertEqual(moments(made, [ring, road]), ("once", step + more))
                wrong = ((0, 0), (0, (more + 1) % 3))
                self.assertIsNone(moments(made, [road, wrong]))
                self.assertIsNone(moments(made, [wrong, road]))
                first = step + more if step + more >= 0 else None
                self.assertEqual(first_moment(made, [ring, road]), first)

    def test_two_counts_of_roads(self):
        made = LaneMap([-2, 2], [[(1, 0), (1, 1)], []])
        one, other = ((0, 2), (1, 0)), ((0, 3), (1, 3))
        self.assertEqual(moments(made, [one]), ("once", 2))
        self.assertEqual(moments(made, [other]), ("once", 3))
        self.assertIsNone(moments(made, [one, other]))
        self.assertEqual(moments(made, [one, one, ((0, 3), (1, 1))]), ("once", 2))

    def test_great_periods(self):
        lengths = [3, 5, 7, 11, 13, 16, 17, 19, 23, 29, 31, 37, 41]
        made, starts = ringed(lengths)
        period = 1
        for length in lengths:
            period *= length
        for count in (0, 1, 10 ** 12 + 7, FAR, -FAR):
            pairs = [((0, start), advance(made, (0, start), count=count)) for start in starts]
            self.assertEqual(moments(made, pairs), ("every", count % period, period))
            self.assertEqual(moments(made, pairs[::-1]), ("every", count % period, period))
            self.assertEqual(first_moment(made, pairs), count % period)

    def test_many_pairs(self):
        made = turned(1, 0, 2000)
        pairs = [((0, at), (0, (at + 77) % 2000)) for at in range(2000)]
        self.assertEqual(moments(made, pairs), ("every", 77, 2000))
        pairs[1999] = ((0, 1999), (0, 1999))
        self.assertIsNone(moments(made, pairs))


class Refused(unittest.TestCase):
    def test_the_first_argument_that_is_no_place(self):
        for lanes in ALL_LANES:
            for made in rich_maps(127, lanes, 3):
                good = (lanes - 1, 3)
                bads = ((lanes, 0), (-1, 0), (0, -1), (FAR, -FAR))
                for bad in bads:
                    for action in (moments, first_moment):
                        expected = (BadPlace, {"place": bad})
                        self.assertEqual(raised(action, made, [(bad, good)]), expected)
                        self.assertEqual(raised(action, made, [(good, bad)]), expected)
                        self.assertEqual(raised(action, made, [(bad, (-5, -5))]), expected)
                        self.assertEqual(raised(action, made, [(good, good), (good, bad), ((-5, 1), good)]), expected)
                        self.assertEqual(raised(action, made, [(good, bad), ((-5, 1), good)]), expected)

    def test_also_behind_a_pair_that_leaves_no_count(self):
        made = identity(2)
        nothing = ((0, 0), (0, 1))
        self.assertIsNone(moments(made, [nothing]))
        for action in (moments, first_moment):
            bad = (2, 0)
            self.assertEqual(raised(action, made, [nothing, ((0, 0), bad)]), (BadPlace, {"place": bad}))
            self.assertEqual(raised(action, made, [nothing, (bad, (0, 0))]), (BadPlace, {"place": bad}))


class Calls(unittest.TestCase):
    def test_by_name(self):
        made = lead(2, 0, 1)
        self.assertEqual(moments(pairs=[((0, 5), (1, 1))], lane_map=made), ("once", 7))
        self.assertEqual(first_moment(pairs=[((0, 5), (1, 1))], lane_map=made), 7)

    def test_nothing_changes(self):
        for lanes in ALL_LANES:
            for made in rich_maps(128, lanes, 5):
                before = told(made)
                pairs = [(place, made.goal(place)) for place in noted_places(made)]
                kept = list(pairs)
                answers = moments(made, pairs), first_moment(made, pairs)
                self.assertEqual(pairs, kept)
                self.assertEqual(told(made), before)
                pairs.clear()
                self.assertEqual((moments(made, kept), first_moment(made, kept)), answers)


if __name__ == "__main__":
    unittest.main()
