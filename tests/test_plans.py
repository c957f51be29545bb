"""plan_image and plan_map: what a plan does to each place."""

import unittest

from farlanes.algebra import compose, conjugate
from farlanes.conjugacy import conjugacy, plan_image, plan_map
from farlanes.errors import BadPlace, BadPlan, OtherLanes, TooWide
from farlanes.maps import LaneMap, identity, lead, swap
from farlanes.orbits import fixed
from farlanes.travel import power
from tests.samples import (
    FAR, carried, changed_plans, conjugate_pairs, far_places, inner_places, near_places, noted_places, numbers,
    plan_by, raised, slow_plan, told, turned, with_cycles,
)

ALL_LANES = range(1, 7)
WIDE = (TooWide, {"most": 2000})
GREAT = (10 ** 18, 10 ** 24 + 1, FAR)


def starts(one, other, moves):
    """The numbers c of the document, for each lane."""
    rows = zip(one.bounds(), other.bounds(), moves)
    return [max(0, bound, there - move, -move) for bound, there, move in rows]


def slow_fixed(one, other, plan):
    """The images of the fixed places that do not move with a tail, by listing both sides."""
    begins = starts(one, other, plan[1])
    sides = []
    for made, by in ((one, [0] * one.lanes()), (other, plan[1])):
        side = []
        for lane, bound in enumerate(made.bounds()):
            end = begins[lane] + by[lane] if made.drifts()[lane] == 0 else bound
            side += [(lane, at) for at in range(end) if made.goal((lane, at)) == (lane, at)]
        sides.append(side)
    return sides


def tail_swaps(one, plan, by):
    """The plan with the moves of two lanes without drift changed by so much, or None if there are not two."""
    still = [lane for lane, drift in enumerate(one.drifts()) if drift == 0]
    if len(still) < 2:
        return None
    moves = list(plan[1])
    moves[still[0]] += by
    moves[still[-1]] -= by
    return (plan[0], moves, plan[2], plan[3])


class Images(unittest.TestCase):
    def test_of_the_plans_of_drawn_conjugators(self):
        for lanes in ALL_LANES:
            for one, other, by in conjugate_pairs(220, lanes, 14):
                plan = plan_by(one, other, by)
                reached = {}
                for place in noted_places(one):
                    there = plan_image(one, other, plan, place)
                    self.assertIsInstance(there, tuple)
                    self.assertEqual(other.goal(there), plan_image(one, other, plan, one.goal(place)))
                    self.assertEqual(reached.setdefault(there, place), place)
                    if one.goal(place) != place:
                        self.assertEqual(there, by.goal(place))
                for lane, at in far_places(lanes):
                    self.assertEqual(plan_image(one, other, plan, (lane, at)), (lane, at + plan[1][lane]))

    def test_fixed_places_by_listing(self):
        listed = 0
        for lanes in ALL_LANES:
            for one, other, by in conjugate_pairs(221, lanes, 14):
                plan = plan_by(one, other, by)
                for more in (0, 1, 5, -7):
                    moved = tail_swaps(one, plan, more) or plan
                    mine, theirs = slow_fixed(one, other, moved)
                    self.assertEqual(len(mine), len(theirs))
                    self.assertEqual([plan_image(one, other, moved, place) for place in mine], theirs)
                    listed += len(mine)
                    for lane, start in enumerate(starts(one, other, moved[1])):
                        if one.drifts()[lane] == 0:
                            for at in (start, start + 1, FAR):
                                expected = (lane, at + moved[1][lane])
                                self.assertEqual(plan_image(one, other, moved, (lane, at)), expected)
        self.assertGreater(listed, 500)

    def test_plans_with_one_number_changed(self):
        for lanes in ALL_LANES:
            for one, other, by in conjugate_pairs(222, lanes, 7):
                for plan in changed_plans(plan_by(one, other, by)):
                    expected = None if slow_plan(one, other, plan) else (BadPlan, {})
                    self.assertEqual(raised(plan_image, one, other, plan, (0, 3)), expected)
                    if expected is None:
                        for place in inner_places(one):
                            there = plan_image(one, other, plan, place)
                            self.assertEqual(other.goal(there), plan_image(one, other, plan, one.goal(place)))

    def test_great_moves_of_the_identity(self):
        for great in GREAT:
            plan = ("plan", [great, -great], [], [])
            for at in (0, 1, 77, great - 1):
                self.assertEqual(plan_image(identity(2), identity(2), plan, (0, at)), (0, at + great))
                self.assertEqual(plan_image(identity(2), identity(2), plan, (1, at)), (0, at))
            for at in (great, great + 5, FAR + great):
                self.assertEqual(plan_image(identity(2), identity(2), plan, (1, at)), (1, at - great))

    def test_great_moves_over_several_lanes(self):
        made = LaneMap([0, -1, 0, 1, 0], [[], [(1, 0), (3, 0)], [(2, 1), (2, 0)], [], []])
        for great in GREAT:
            plan = ("plan", [great, 0, -3 * great, 0, 2 * great], [(0, 0)], [(0, 0)])
            cases = [
                ((0, 0), (0, great)), ((1, 0), (0, 0)), ((1, 1), (1, 1)), ((2, 0), (2, 0)), ((2, 2), (0, 1)),
                ((2, great), (0, great - 1)), ((2, great + 1), (1, 0)), ((2, great + 2), (4, 0)),
                ((2, 3 * great + 1), (4, 2 * great - 1)), ((2, 3 * great + 2), (2, 2)), ((4, 0), (4, 2 * great)),
            ]
            for place, there in cases:
                self.assertEqual(plan_image(made, made, plan, place), there)

    def test_great_moves_of_drawn_plans(self):
        tried = 0
        for lanes in range(3, 7):
            for one, other, by in conjugate_pairs(223, lanes, 14):
                for great in (10 ** 18, -10 ** 18 - 5):
                    plan = tail_swaps(one, plan_by(one, other, by), great)
                    if plan is not None:
                        tried += 1
                        self.order_is_kept(one, other, plan)
        self.assertGreater(tried, 20)

    def order_is_kept(self, one, other, plan):
        """Fixed places that do not move with a tail keep their order, and each image is fixed and new."""
        begins = starts(one, other, plan[1])
        places = fixed(one)
        for lane, start in enumerate(begins):
            if one.drifts()[lane] == 0:
                bound = one.bounds()[lane]
                some = (bound, bound + 1, start // 2, start - 1)
                places += [(lane, at) for at in some if bound <= at < start]
        places = sorted({place for place in places if one.drifts()[place[0]] or place[1] < begins[place[0]]})
        images = [plan_image(one, other, plan, place) for place in places]
        self.assertEqual(images, sorted(set(images)))
        for lane, at in images:
            self.assertEqual(other.goal((lane, at)), (lane, at))
            if other.drifts()[lane] == 0:
                self.assertLess(at, begins[lane] + plan[1][lane])

    def test_great_shifts(self):
        for great in GREAT:
            plan = ("plan", [-great, great], [(0, great)], [])
            made = lead(2, 0, 1)
            self.assertEqual(plan_image(made, made, plan, (0, great)), (0, 0))
            self.assertEqual(plan_image(made, made, plan, (0, great - 1)), (1, 0))
            self.assertEqual(plan_image(made, made, plan, (1, 4)), (1, great + 4))


class Maps(unittest.TestCase):
    def test_conjugates_one_into_other(self):
        for lanes in ALL_LANES:
            for one, other, by in conjugate_pairs(224, lanes, 14):
                for plan in (plan_by(one, other, by), conjugacy(one, other)):
                    made = plan_map(one, other, plan)
                    self.assertIsInstance(made, LaneMap)
                    self.assertEqual(made.drifts(), list(plan[1]))
                    self.assertTrue(compose(one, made) == compose(made, other))
                    for place in near_places(lanes, 25) + far_places(lanes):
                        self.assertEqual(made.goal(place), plan_image(one, other, plan, place))

    def test_plans_with_one_number_changed(self):
        for lanes in ALL_LANES:
            for one, other, by in conjugate_pairs(225, lanes, 7):
                for plan in changed_plans(plan_by(one, other, by)):
                    if slow_plan(one, other, plan):
                        made = plan_map(one, other, plan)
                        self.assertTrue(compose(one, made) == compose(made, other))
                    else:
                        self.assertEqual(raised(plan_map, one, other, plan), (BadPlan, {}))

    def test_exactly_the_greatest_width(self):
        step = lead(2, 0, 1)
        for shift in (0, 1, 1999, 2000, -2000):
            made = plan_map(step, step, ("plan", [-shift, shift], [(0, shift)], []))
            self.assertTrue(made == power(step, shift))
        for shift in (2001, -2001):
            self.assertEqual(raised(plan_map, step, step, ("plan", [-shift, shift], [(0, shift)], [])), WIDE)
        still = identity(3)
        self.assertEqual(len(plan_map(still, still, ("plan", [2000, -1000, -1000], [], []))), 2000)
        self.assertEqual(raised(plan_map, still, still, ("plan", [2001, -1001, -1000], [], [])), WIDE)

    def test_too_wide_by_inner_places_only(self):
        one, other = turned(2, 0, 1000), turned(2, 1, 1000)
        self.assertEqual(len(plan_map(one, other, ("plan", [0, 0], [], [(0, 3)]))), 2000)
        one, other = turned(2, 0, 1001), turned(2, 1, 1001)
        self.assertEqual(raised(plan_map, one, other, ("plan", [0, 0], [], [(0, 3)])), WIDE)
        self.assertEqual(raised(plan_map, one, other, ("plan", [-1001, 1001], [], [(0, 0)])), None)

    def test_great_moves(self):
        for great in GREAT + tuple(-each for each in GREAT):
            self.assertEqual(raised(plan_map, identity(2), identity(2), ("plan", [great, -great], [], [])), WIDE)
            step = lead(3, 0, 1)
            self.assertEqual(raised(plan_map, step, step, ("plan", [-great, great, 0], [(0, great)], [])), WIDE)

    def test_conjugators_of_themselves(self):
        for lanes in range(2, 7):
            made = carried(lanes, 0, lanes - 1, 2)
            plan = ("plan", [0] * lanes, [(0, 0), (1, 0)], [])
            self.assertTrue(plan_map(made, made, plan) == identity(lanes))
            plan = ("plan", [-2] + [0] * (lanes - 2) + [2], [(0, 1), (1, 1)], [])
            self.assertTrue(plan_map(made, made, plan) == made)


class Refused(unittest.TestCase):
    def test_in_their_order(self):
        for lanes in ALL_LANES:
            for others in ALL_LANES:
                one, other = identity(lanes), identity(others)
                good, bad = ("plan", [0] * lanes, [], []), ("plan", [1] * lanes, [], [])
                for plan in (good, bad):
                    for place in ((0, 0), (lanes, 0)):
                        expected = None
                        if place != (0, 0):
                            expected = (BadPlace, {"place": place})
                        if plan == bad:
                            expected = (BadPlan, {})
                        if lanes != others:
                            expected = (OtherLanes, {})
                        self.assertEqual(raised(plan_image, one, other, plan, place), expected)
                    expected = (BadPlan, {}) if plan == bad else None
                    expected = expected if lanes == others else (OtherLanes, {})
                    self.assertEqual(raised(plan_map, one, other, plan), expected)

    def test_what_is_no_place(self):
        for lanes in ALL_LANES:
            for one, other, by in conjugate_pairs(226, lanes, 3):
                plan = plan_by(one, other, by)
                for wrong in ((lanes, 0), (-1, 0), (0, -1), (lanes - 1, -FAR), (FAR, 0)):
                    self.assertEqual(raised(plan_image, one, other, plan, wrong), (BadPlace, {"place": wrong}))

    def test_other_drifts(self):
        plan = ("plan", [0, 0], [(0, 0)], [])
        self.assertEqual(raised(plan_image, lead(2, 0, 1), lead(2, 1, 0), plan, (0, 0)), (BadPlan, {}))
        self.assertEqual(raised(plan_map, lead(2, 0, 1), identity(2), plan), (BadPlan, {}))

    def test_a_bad_plan_comes_before_too_wide(self):
        plan = ("plan", [FAR, -FAR], [], [(0, 0)])
        self.assertEqual(raised(plan_map, identity(2), identity(2), plan), (BadPlan, {}))


class Calls(unittest.TestCase):
    def test_lists_and_tuples(self):
        for lanes in ALL_LANES:
            for one, other, by in conjugate_pairs(227, lanes, 5):
                plan = plan_by(one, other, by)
                other_plan = (plan[0], tuple(plan[1]), tuple(plan[2]), tuple(plan[3]))
                self.assertTrue(plan_map(one, other, plan) == plan_map(one, other, other_plan))
                for place in near_places(lanes, 6):
                    there = plan_image(one, other, plan, place)
                    self.assertEqual(plan_image(one, other, other_plan, place), there)

    def test_by_name(self):
        step, plan = lead(2, 0, 1), ("plan", [-1, 1], [(0, 1)], [])
        self.assertEqual(plan_image(place=(0, 1), plan=plan, other=step, one=step), (0, 0))
        self.assertTrue(plan_map(plan=plan, other=step, one=step) == step)
        one, other = swap(1, (0, 0), (0, 1)), swap(1, (0, 0), (0, 2))
        plan = ("plan", [0], [], [(0, 0)])
        self.assertEqual(plan_image(plan=plan, one=one, other=other, place=(0, 1)), (0, 2))

    def test_nothing_changes(self):
        source = numbers(228)
        for lanes in ALL_LANES:
            for one, other, by in conjugate_pairs(228, lanes, 5):
                plan = plan_by(one, other, by)
                kept = (plan[0], list(plan[1]), list(plan[2]), list(plan[3]))
                before = told(one), told(other)
                made = plan_map(one, other, plan)
                answers = told(made), [plan_image(one, other, plan, place) for place in near_places(lanes, 8)]
                raised(plan_image, one, other, plan, (lanes, 0))
                raised(plan_map, one, with_cycles(source, other, [2]), plan)
                self.assertEqual(plan, kept)
                for item in plan[1:]:
                    item.append(99)
                for row in made.goals():
                    row.append((0, 0))
                again = [plan_image(one, other, kept, place) for place in near_places(lanes, 8)]
                self.assertEqual((told(made), again), answers)
                self.assertEqual((told(one), told(other)), before)

    def test_a_conjugate_of_a_conjugate(self):
        for lanes in ALL_LANES:
            for one, other, by in conjugate_pairs(229, lanes, 5):
                made = plan_map(one, other, conjugacy(one, other))
                self.assertTrue(conjugate(one, made) == other)


if __name__ == "__main__":
    unittest.main()
