"""compose, inverse, conjugate and commute, place by place."""

import unittest

from farlanes.algebra import commute, compose, conjugate, inverse
from farlanes.errors import OtherLanes, TooWide
from farlanes.maps import LaneMap, identity, lead, swap
from tests.samples import carried, far_places, near_places, raised, some_maps, told, turned

ALL_LANES = range(1, 7)
WIDE = (TooWide, {"most": 2000})


def places(lanes):
    return near_places(lanes, 25) + far_places(lanes)


def pairs(seed, lanes, many=25):
    return list(zip(some_maps(seed, lanes, many), some_maps(seed + 1, lanes, many)))


class Compose(unittest.TestCase):
    def test_place_by_place(self):
        for lanes in ALL_LANES:
            for first, second in pairs(20, lanes):
                both = compose(first, second)
                self.assertIsInstance(both, LaneMap)
                for place in places(lanes):
                    self.assertEqual(both.goal(place), second.goal(first.goal(place)))
                    self.assertEqual(both.source(place), first.source(second.source(place)))
                self.assertEqual(both.drifts(), [a + b for a, b in zip(first.drifts(), second.drifts())])

    def test_the_result_has_the_least_bounds(self):
        for lanes in ALL_LANES:
            for first, second in pairs(22, lanes):
                both = compose(first, second)
                for lane, bound in enumerate(both.bounds()):
                    if bound:
                        last = (lane, bound - 1)
                        self.assertNotEqual(second.goal(first.goal(last)), (lane, last[1] + both.drifts()[lane]))
                self.assertTrue(both == LaneMap(both.drifts(), both.goals()))

    def test_the_order_of_the_maps(self):
        first, second = swap(1, (0, 0), (0, 1)), swap(1, (0, 1), (0, 2))
        self.assertEqual(compose(first, second).goals(), [[(0, 2), (0, 0), (0, 1)]])
        self.assertEqual(compose(second, first).goals(), [[(0, 1), (0, 2), (0, 0)]])

    def test_leads(self):
        self.assertEqual(str(compose(lead(2, 0, 1), lead(2, 0, 1))), "-2 1.1 1.0 | 2")
        self.assertEqual(str(compose(lead(2, 1, 0), lead(2, 0, 1))), "0 | 0")
        self.assertEqual(str(compose(lead(3, 0, 1), lead(3, 1, 2))), "-1 2.0 | 0 | 1")

    def test_the_identity(self):
        for lanes in ALL_LANES:
            for made in some_maps(24, lanes, 10):
                self.assertTrue(compose(made, identity(lanes)) == made)
                self.assertTrue(compose(identity(lanes), made) == made)

    def test_the_greatest_width(self):
        for lanes in range(2, 7):
            last = lanes - 1
            self.assertEqual(len(compose(turned(lanes, 0, 1000), turned(lanes, last, 1000))), 2000)
            self.assertEqual(raised(compose, turned(lanes, 0, 1001), turned(lanes, last, 1000)), WIDE)
            self.assertEqual(len(compose(carried(lanes, last, 0, 1200), carried(lanes, last, 0, 800))), 2000)
            self.assertEqual(raised(compose, carried(lanes, last, 0, 1200), carried(lanes, last, 0, 801)), WIDE)
            self.assertEqual(raised(compose, carried(lanes, 0, last, 2000), carried(lanes, 0, last, 2000)), WIDE)

    def test_one_lane_is_never_too_wide(self):
        both = compose(turned(1, 0, 2000), turned(1, 0, 1999))
        self.assertEqual((len(both), both.goal((0, 1997)), both.goal((0, 1998))), (2000, (0, 0), (0, 1999)))

    def test_wide_maps_with_a_narrow_result(self):
        for lanes in ALL_LANES:
            made = turned(lanes, lanes - 1, 2000)
            self.assertTrue(compose(made, inverse(made)) == identity(lanes))
        for lanes in range(3, 7):
            first = compose(turned(lanes, 0, 1100), turned(lanes, 1, 900))
            second = compose(turned(lanes, 0, 1100, -1), turned(lanes, 2, 900))
            self.assertTrue(compose(first, second) == compose(turned(lanes, 1, 900), turned(lanes, 2, 900)))


class Inverse(unittest.TestCase):
    def test_place_by_place(self):
        for lanes in ALL_LANES:
            for made in some_maps(30, lanes, 30):
                back = inverse(made)
                self.assertIsInstance(back, LaneMap)
                self.assertEqual(back.drifts(), [-drift for drift in made.drifts()])
                self.assertEqual(len(back), len(made))
                for place in places(lanes):
                    self.assertEqual(back.goal(place), made.source(place))
                    self.assertEqual(back.source(place), made.goal(place))

    def test_a_map_and_its_inverse_in_both_orders(self):
        for lanes in ALL_LANES:
            for made in some_maps(31, lanes, 30):
                self.assertTrue(compose(made, inverse(made)) == identity(lanes))
                self.assertTrue(compose(inverse(made), made) == identity(lanes))
                self.assertTrue(inverse(inverse(made)) == made)

    def test_the_inverse_of_a_composition(self):
        for lanes in ALL_LANES:
            for first, second in pairs(32, lanes, 10):
                self.assertTrue(inverse(compose(first, second)) == compose(inverse(second), inverse(first)))

    def test_some_inverses(self):
        self.assertTrue(inverse(lead(4, 3, 1)) == lead(4, 1, 3))
        self.assertTrue(inverse(swap(2, (0, 3), (1, 1))) == swap(2, (1, 1), (0, 3)))
        self.assertEqual(str(inverse(carried(2, 0, 1, 3))), "3 | -3 0.2 0.1 0.0")

    def test_the_greatest_width(self):
        for lanes in range(2, 7):
            self.assertTrue(inverse(carried(lanes, 0, lanes - 1, 2000)) == carried(lanes, lanes - 1, 0, 2000))


class Conjugate(unittest.TestCase):
    def test_place_by_place(self):
        for lanes in ALL_LANES:
            for made, by in pairs(40, lanes):
                result = conjugate(made, by)
                self.assertIsInstance(result, LaneMap)
                for place in places(lanes):
                    self.assertEqual(result.goal(by.goal(place)), by.goal(made.goal(place)))
                self.assertTrue(result == compose(compose(inverse(by), made), by))

    def test_a_swap(self):
        made = swap(3, (0, 0), (1, 2))
        for by in some_maps(42, 3, 10):
            self.assertTrue(conjugate(made, by) == swap(3, by.goal((0, 0)), by.goal((1, 2))))

    def test_too_wide_at_the_end_and_on_the_way(self):
        for lanes in range(2, 7):
            last = lanes - 1
            self.assertEqual(len(conjugate(turned(lanes, 0, 1000), turned(lanes, last, 1000))), 1000)
            self.assertEqual(raised(conjugate, turned(lanes, 0, 1500), turned(lanes, last, 1500)), WIDE)
            self.assertEqual(raised(conjugate, swap(lanes, (0, 0), (last, 1)), carried(lanes, last, 0, 2000)), WIDE)
            made, by = swap(lanes, (0, 400), (last, 1100)), carried(lanes, 0, last, 500)
            on_the_way = compose(inverse(by), made)
            self.assertLessEqual(len(on_the_way), 2000)
            self.assertEqual(raised(compose, on_the_way, by), None)
            self.assertTrue(conjugate(made, by) == swap(lanes, by.goal((0, 400)), by.goal((last, 1100))))

    def test_too_wide_only_at_the_end(self):
        for lanes in range(2, 7):
            rest = carried(lanes, 0, lanes - 1, 900)
            for size, expected in ((1100, None), (1101, WIDE)):
                by = turned(lanes, 0, size)
                made = compose(by, rest)
                self.assertTrue(compose(inverse(by), made) == rest)
                self.assertEqual(raised(conjugate, made, by), expected)
            self.assertEqual(len(conjugate(compose(turned(lanes, 0, 1100), rest), turned(lanes, 0, 1100))), 2000)


class Commute(unittest.TestCase):
    def test_place_by_place(self):
        for lanes in ALL_LANES:
            seen = {}
            small = some_maps(50, lanes, 30, 1, 3) + [identity(lanes)]
            for one in small:
                for other in small:
                    expected = all(
                        other.goal(one.goal(place)) == one.goal(other.goal(place)) for place in near_places(lanes, 20)
                    )
                    self.assertIs(commute(one, other), expected)
                    seen[expected] = True
            self.assertEqual(sorted(seen), [False, True])

    def test_a_map_and_what_it_always_commutes_with(self):
        for lanes in ALL_LANES:
            for made in some_maps(51, lanes, 10):
                for other in (made, inverse(made), compose(made, made), identity(lanes)):
                    self.assertIs(commute(made, other), True)
                    self.assertIs(commute(other, made), True)

    def test_maps_whose_composition_is_too_wide(self):
        for lanes in range(2, 7):
            one, other = turned(lanes, 0, 1500), turned(lanes, lanes - 1, 1500)
            self.assertEqual(raised(compose, one, other), WIDE)
            self.assertIs(commute(one, other), True)
            moved = carried(lanes, 0, lanes - 1, 1500)
            self.assertEqual(raised(compose, moved, moved), WIDE)
            self.assertIs(commute(moved, moved), True)
            self.assertEqual(raised(compose, other, moved), WIDE)
            self.assertIs(commute(other, moved), False)
            self.assertIs(commute(moved, other), False)

    def test_they_differ_only_at_the_last_place(self):
        self.assertIs(commute(swap(1, (0, 1998), (0, 1999)), swap(1, (0, 0), (0, 1))), True)
        self.assertIs(commute(swap(1, (0, 1998), (0, 1999)), swap(1, (0, 1997), (0, 1998))), False)


class OtherNumbersOfLanes(unittest.TestCase):
    def test_in_both_orders(self):
        for lanes in ALL_LANES:
            for others in ALL_LANES:
                one, other = some_maps(60, lanes, 1)[0], some_maps(61, others, 1)[0]
                expected = None if lanes == others else (OtherLanes, {})
                for action in (compose, conjugate, commute):
                    self.assertEqual(raised(action, one, other), expected)
                    self.assertEqual(raised(action, other, one), expected)

    def test_it_comes_before_too_wide(self):
        one, other = carried(2, 0, 1, 2000), carried(3, 0, 1, 2000)
        for action in (compose, conjugate, commute):
            self.assertEqual(raised(action, one, other), (OtherLanes, {}))
            self.assertEqual(raised(action, other, one), (OtherLanes, {}))


class Calls(unittest.TestCase):
    def test_arguments_do_not_change_and_are_not_shared(self):
        for lanes in ALL_LANES:
            for one, other in pairs(70, lanes, 5):
                before = told(one), told(other)
                results = [compose(one, other), inverse(one), conjugate(one, other), compose(one, identity(lanes))]
                commute(one, other)
                kept = [told(result) for result in results]
                for made in results + [one, other]:
                    for row in made.goals():
                        row.append((0, 0))
                    made.drifts()[0] = 5
                    made.bounds()[0] = 5
                self.assertEqual((told(one), told(other)), before)
                self.assertEqual([told(result) for result in results], kept)

    def test_an_error_changes_nothing(self):
        one, other = turned(2, 0, 1001), turned(2, 1, 1000)
        before = told(one), told(other)
        self.assertEqual(raised(compose, one, other), WIDE)
        self.assertEqual(raised(conjugate, one, other), WIDE)
        self.assertEqual((told(one), told(other)), before)

    def test_equal_arguments_have_equal_results(self):
        for lanes in ALL_LANES:
            for one, other in pairs(72, lanes, 5):
                self.assertTrue(compose(one, other) == compose(one, other))
                self.assertTrue(conjugate(one, other) == conjugate(one, other))
                self.assertTrue(inverse(one) == inverse(one))

    def test_by_name(self):
        one, other = lead(2, 0, 1), swap(2, (0, 0), (1, 1))
        self.assertTrue(compose(second=other, first=one) == compose(one, other))
        self.assertTrue(inverse(lane_map=one) == inverse(one))
        self.assertTrue(conjugate(by=other, lane_map=one) == conjugate(one, other))
        self.assertIs(commute(other=other, one=one), False)
        self.assertFalse(compose(one, other) == compose(other, one))


if __name__ == "__main__":
    unittest.main()
