"""LaneMap: what it takes and what it tells."""

import unittest

from farlanes.errors import BadPlace
from farlanes.maps import LaneMap, identity, lead, swap
from tests.samples import FAR, far_places, image, least_bounds, near_places, numbers, parts, raised, some_maps, told

ALL_LANES = range(1, 7)


def as_tuples(rows):
    return tuple(tuple(row) for row in rows)


class Making(unittest.TestCase):
    def test_what_it_tells_of_any_map(self):
        for lanes in ALL_LANES:
            source = numbers(100 + lanes)
            for turn in range(60):
                drifts, goals = parts(source, lanes)
                with self.subTest(drifts=drifts, goals=goals):
                    made = LaneMap(drifts, goals)
                    bounds = least_bounds(drifts, goals)
                    short = [row[:bound] for row, bound in zip(goals, bounds)]
                    self.assertEqual(made.lanes(), lanes)
                    self.assertEqual(made.drifts(), drifts)
                    self.assertEqual(made.bounds(), bounds)
                    self.assertEqual(made.goals(), short)
                    self.assertEqual(len(made), sum(bounds))
                    self.assertEqual(repr(made), f"LaneMap({lanes} lanes, {sum(bounds)} goals)")

    def test_lists_and_tuples_make_the_same_map(self):
        for lanes in ALL_LANES:
            source = numbers(200 + lanes)
            for turn in range(20):
                drifts, goals = parts(source, lanes)
                made = LaneMap(drifts, goals)
                for one in (drifts, tuple(drifts)):
                    for other in (goals, tuple(goals), [tuple(row) for row in goals], as_tuples(goals)):
                        again = LaneMap(one, other)
                        self.assertTrue(made == again)
                        self.assertEqual(again.drifts(), list(drifts))
                        self.assertEqual(again.goals(), made.goals())
                        self.assertIsInstance(again.drifts(), list)
                        self.assertIsInstance(again.goals(), list)
                        self.assertTrue(all(isinstance(row, list) for row in again.goals()))

    def test_goals_left_out_and_empty(self):
        for lanes in ALL_LANES:
            zeros = [0] * lanes
            ways = [LaneMap(zeros), LaneMap(zeros, []), LaneMap(zeros, ()), LaneMap(zeros, [[]] * lanes)]
            for made in ways:
                self.assertTrue(made == ways[0])
                self.assertEqual(made.goals(), [[] for lane in range(lanes)])
                self.assertEqual(made.bounds(), zeros)
                self.assertEqual(len(made), 0)
                self.assertEqual(made.goal((lanes - 1, 5)), (lanes - 1, 5))

    def test_goals_longer_than_the_bounds(self):
        for lanes in ALL_LANES:
            source = numbers(300 + lanes)
            for turn in range(20):
                drifts, goals = parts(source, lanes)
                longer = []
                for lane, row in enumerate(goals):
                    end = len(row) + source.randint(0, 6)
                    longer.append(row + [(lane, at + drifts[lane]) for at in range(len(row), end)])
                made = LaneMap(drifts, longer)
                self.assertTrue(made == LaneMap(drifts, goals))
                self.assertEqual(made.goals(), LaneMap(drifts, goals).goals())
                self.assertEqual(repr(made), repr(LaneMap(drifts, goals)))
                self.assertEqual(str(made), str(LaneMap(drifts, goals)))

    def test_all_goals_may_be_superfluous(self):
        made = LaneMap([0, 0], [[(0, at) for at in range(1000)], [(1, at) for at in range(1000)]])
        self.assertEqual((made.bounds(), made.goals(), len(made)), ([0, 0], [[], []], 0))
        self.assertTrue(made == identity(2))

    def test_only_the_end_of_a_row_is_superfluous(self):
        made = LaneMap([0], [[(0, 0), (0, 2), (0, 1), (0, 3)]])
        self.assertEqual(made.goals(), [[(0, 0), (0, 2), (0, 1)]])

    def test_a_goal_with_the_same_position_on_another_lane_is_inner(self):
        made = LaneMap([0, 0], [[(1, 0)], [(0, 0)]])
        self.assertEqual((made.bounds(), made.goal((0, 0)), made.source((0, 0))), ([1, 1], (1, 0), (1, 0)))

    def test_inner_places_that_change_lanes(self):
        made = LaneMap([2, -3, 1], [[(2, 0), (0, 0)], [(0, 3), (0, 1), (2, 1), (0, 2)], [(1, 0)]])
        self.assertEqual(made.bounds(), [2, 4, 1])
        self.assertEqual(made.goal((1, 2)), (2, 1))
        self.assertEqual(made.source((1, 0)), (2, 0))
        self.assertEqual(made.goal((1, 4)), (1, 1))
        self.assertEqual(made.goal((2, 1)), (2, 2))
        self.assertEqual(made.source((0, 4)), (0, 2))


class Texts(unittest.TestCase):
    def test_the_text_of_any_map(self):
        for lanes in ALL_LANES:
            for made in some_maps(11, lanes, 30):
                words = []
                for drift, row in zip(made.drifts(), made.goals()):
                    words.append(" ".join([str(drift)] + [str(lane) + "." + str(at) for lane, at in row]))
                self.assertEqual(str(made), " | ".join(words))

    def test_some_texts(self):
        self.assertEqual(str(identity(1)), "0")
        self.assertEqual(str(identity(6)), "0 | 0 | 0 | 0 | 0 | 0")
        self.assertEqual(str(swap(2, (0, 0), (1, 1))), "0 1.1 | 0 1.0 0.0")
        self.assertEqual(str(LaneMap([3, -3], [[], [(0, 2), (0, 1), (0, 0)]])), "3 | -3 0.2 0.1 0.0")

    def test_repr_has_these_words_for_all_numbers(self):
        self.assertEqual(repr(identity(1)), "LaneMap(1 lanes, 0 goals)")
        self.assertEqual(repr(swap(6, (5, 999), (4, 999))), "LaneMap(6 lanes, 2000 goals)")


class Equality(unittest.TestCase):
    def test_the_same_map_and_another_one(self):
        for lanes in ALL_LANES:
            made = some_maps(12, lanes, 25)
            for one in made:
                for other in made:
                    near = near_places(lanes, 30)
                    same = all(one.goal(place) == other.goal(place) for place in near)
                    self.assertIs(one == other, same)
                    self.assertIs(one != other, not same)

    def test_other_drifts_or_goals_or_lanes(self):
        self.assertFalse(lead(3, 0, 1) == lead(3, 0, 2))
        self.assertFalse(lead(3, 0, 1) == lead(3, 1, 0))
        self.assertFalse(lead(2, 0, 1) == lead(3, 0, 1))
        self.assertFalse(swap(1, (0, 0), (0, 1)) == swap(1, (0, 0), (0, 2)))
        self.assertFalse(identity(1) == identity(2))

    def test_equal_to_nothing_else(self):
        made = lead(2, 0, 1)
        for other in (None, 0, 1, "-1 1.0 | 1", [[(1, 0)], []], ([-1, 1], [[(1, 0)], []]), {}, str(made), repr(made)):
            self.assertIs(made == other, False)
            self.assertIs(other == made, False)
            self.assertIs(made != other, True)


class Asking(unittest.TestCase):
    def test_goal_and_source_of_near_and_far_places(self):
        for lanes in ALL_LANES:
            source = numbers(400 + lanes)
            for turn in range(30):
                drifts, goals = parts(source, lanes)
                made = LaneMap(drifts, goals)
                for place in near_places(lanes, 25) + far_places(lanes):
                    there = made.goal(place)
                    self.assertEqual(there, image(drifts, goals, place))
                    self.assertIsInstance(there, tuple)
                    self.assertEqual(made.source(there), place)
                    self.assertEqual(made.goal(made.source(place)), place)

    def test_places_beside_the_bounds(self):
        for lanes in ALL_LANES:
            for made in some_maps(13, lanes, 30):
                for lane, (bound, drift) in enumerate(zip(made.bounds(), made.drifts())):
                    for at in range(bound, bound + 3):
                        self.assertEqual(made.goal((lane, at)), (lane, at + drift))
                        self.assertEqual(made.source((lane, at + drift)), (lane, at))
                    if bound:
                        self.assertNotEqual(made.goal((lane, bound - 1)), (lane, bound - 1 + drift))

    def test_far_out(self):
        made = lead(6, 5, 2)
        self.assertEqual(made.goal((5, FAR)), (5, FAR - 1))
        self.assertEqual(made.goal((2, FAR)), (2, FAR + 1))
        self.assertEqual(made.source((2, FAR)), (2, FAR - 1))
        self.assertEqual(made.source((5, FAR)), (5, FAR + 1))

    def test_the_map_of_the_greatest_width(self):
        made = LaneMap([-2000, 2000], [[(1, 1999 - at) for at in range(2000)], []])
        self.assertEqual((made.bounds(), len(made)), ([2000, 0], 2000))
        self.assertEqual(made.goal((0, 2000)), (0, 0))
        self.assertEqual(made.source((1, 1999)), (0, 0))
        self.assertEqual(made.source((1, 2000)), (1, 0))

    def test_what_is_no_place(self):
        for lanes in ALL_LANES:
            made = some_maps(14, lanes, 1)[0]
            for wrong in ((lanes, 0), (lanes, FAR), (-1, 0), (-1, 3), (0, -1), (lanes - 1, -FAR), (-FAR, 0), (FAR, 1)):
                self.assertEqual(raised(made.goal, wrong), (BadPlace, {"place": wrong}))
                self.assertEqual(raised(made.source, wrong), (BadPlace, {"place": wrong}))
            self.assertEqual(raised(made.goal, (lanes - 1, 0)), None)
            self.assertEqual(raised(made.source, (lanes - 1, 0)), None)


class Copies(unittest.TestCase):
    def test_passed_lists_are_neither_changed_nor_kept(self):
        for lanes in ALL_LANES:
            source = numbers(500 + lanes)
            for turn in range(10):
                drifts, goals = parts(source, lanes)
                first_drifts, first_goals = list(drifts), [list(row) for row in goals]
                made = LaneMap(drifts, goals)
                self.assertEqual((drifts, goals), (first_drifts, first_goals))
                before = told(made)
                for row in goals:
                    row.insert(0, (9, 9))
                    row[-1] = (0, 77)
                goals.append([(0, 0)])
                drifts[0] = 50
                drifts.append(3)
                self.assertEqual(told(made), before)
                self.assertTrue(made == LaneMap(first_drifts, first_goals))

    def test_returned_lists_are_new(self):
        for lanes in ALL_LANES:
            for made in some_maps(15, lanes, 10):
                before = told(made)
                for row in made.goals():
                    row.append((0, 5))
                    row[0] = (8, 8)
                made.goals().clear()
                made.drifts()[0] = 99
                made.bounds()[0] = 99
                answer = made.goals()
                answer[0] = [(3, 3)]
                self.assertEqual(told(made), before)
                self.assertIsNot(made.goals(), made.goals())
                self.assertIsNot(made.goals()[0], made.goals()[0])
                self.assertIsNot(made.drifts(), made.drifts())
                self.assertIsNot(made.bounds(), made.bounds())

    def test_what_is_returned_can_be_passed_back(self):
        for lanes in ALL_LANES:
            for made in some_maps(16, lanes, 10):
                self.assertTrue(LaneMap(made.drifts(), made.goals()) == made)

    def test_an_error_changes_nothing(self):
        drifts, goals = [-1, 1], [[(1, 1)], []]
        raised(LaneMap, drifts, goals)
        self.assertEqual((drifts, goals), ([-1, 1], [[(1, 1)], []]))
        made = lead(2, 0, 1)
        before = told(made)
        raised(made.goal, (2, 0))
        raised(made.source, (0, -1))
        self.assertEqual(told(made), before)

    def test_by_name(self):
        made = LaneMap(goals=[[(1, 0)], []], drifts=[-1, 1])
        self.assertTrue(made == lead(2, 0, 1))
        self.assertTrue(LaneMap(drifts=[0, 0]) == identity(2))
        self.assertEqual(made.goal(place=(0, 0)), (1, 0))
        self.assertEqual(made.source(place=(1, 0)), (0, 0))


if __name__ == "__main__":
    unittest.main()
