"""conjugacy: plans of conjugate maps, obstructions of others."""

import unittest

from farlanes.algebra import compose, conjugate
from farlanes.conjugacy import MOST_CHOICES, conjugacy, plan_image, plan_map
from farlanes.errors import OtherLanes, TooMany
from farlanes.judging import is_obstruction, is_plan
from farlanes.maps import LaneMap, identity, lead, swap
from tests.samples import (
    FAR, all_choices, carried, close_pairs, conjugate_pairs, facts, far_places, noted_places, numbers, one_way,
    parts_of, raised, rich_maps, ringed, slow_leaf, slow_plan, told, turned, wired, with_cycles,
)

ALL_LANES = range(1, 7)
# Six roads that make one ring over six lanes, with a longer road on the way there or on the way back.
THERE = wired(6, [(0, 3, 1), (0, 4, 0), (1, 4, 0), (1, 5, 0), (2, 5, 0), (2, 3, 0)])
BACK = wired(6, [(0, 3, 0), (0, 4, 1), (1, 4, 0), (1, 5, 0), (2, 5, 0), (2, 3, 0)])


class Judged(unittest.TestCase):
    def check_plan(self, one, other, plan):
        """The plan holds, and what it describes conjugates one into other."""
        self.assertIsInstance(plan, tuple)
        self.assertEqual([type(item) for item in plan], [str, list, list, list])
        self.assertTrue(slow_plan(one, other, plan))
        self.assertIs(is_plan(one, other, plan), True)
        reached = {}
        for place in noted_places(one):
            there = plan_image(one, other, plan, place)
            self.assertEqual(other.goal(there), plan_image(one, other, plan, one.goal(place)))
            self.assertIn(reached.setdefault(there, place), (place,))
        for lane, at in far_places(one.lanes()):
            self.assertEqual(plan_image(one, other, plan, (lane, at)), (lane, at + plan[1][lane]))

    def check_leaves(self, one, other, paper):
        """The obstruction has a leaf for each choice, each of them right."""
        self.assertEqual(paper[0], "choices")
        self.assertIsInstance(paper[1], list)
        choices = all_choices(one.drifts())
        self.assertEqual(len(paper[1]), len(choices))
        for choice, leaf in zip(choices, paper[1]):
            self.assertIsInstance(leaf, tuple)
            self.assertIn(leaf[0], ("lane", "part", "ring"))
            self.assertEqual(len(leaf), 3 if leaf[0] == "part" else 2)
            self.assertTrue(slow_leaf(one, other, choice, leaf))
            if leaf[0] == "ring":
                self.assertIsInstance(leaf[1], list)
                self.assertEqual(len(set(leaf[1])), len(leaf[1]))
        self.assertIs(is_obstruction(one, other, paper), True)


class ConjugateMaps(Judged):
    def test_by_drawn_conjugators(self):
        for lanes in ALL_LANES:
            for one, other, by in conjugate_pairs(200, lanes, 14):
                self.check_plan(one, other, conjugacy(one, other))
                self.check_plan(other, one, conjugacy(other, one))

    def test_a_map_and_itself(self):
        for lanes in ALL_LANES:
            for made in rich_maps(201, lanes, 7, 6):
                self.check_plan(made, made, conjugacy(made, made))

    def test_without_incoming_lanes(self):
        for lanes in ALL_LANES:
            self.check_plan(identity(lanes), identity(lanes), conjugacy(identity(lanes), identity(lanes)))
            one, other = swap(lanes, (0, 0), (0, 1)), swap(lanes, (lanes - 1, 5), (0, 7))
            self.check_plan(one, other, conjugacy(one, other))

    def test_cycles_are_paired_by_their_lengths(self):
        one, other = ringed([2, 5, 3, 2, 1, 4, 3])[0], ringed([3, 2, 4, 1, 3, 5, 2])[0]
        self.check_plan(one, other, conjugacy(one, other))

    def test_moves_that_go_round_several_times(self):
        for lanes in range(3, 7):
            one = wired(lanes, [(0, 2, 4), (1, 2, 0)])
            other = wired(lanes, [(0, 2, 0), (1, 2, 4)])
            self.check_plan(one, other, conjugacy(one, other))
            self.check_plan(other, one, conjugacy(other, one))

    def test_a_wide_map(self):
        one = carried(2, 0, 1, 1000)
        other = conjugate(one, turned(2, 1, 900))
        plan = conjugacy(one, other)
        self.assertIs(is_plan(one, other, plan), True)
        by = plan_map(one, other, plan)
        self.assertTrue(compose(one, by) == compose(by, other))


class PlainObstructions(Judged):
    def both_ways(self, one, other, expected):
        self.assertEqual(conjugacy(one, other), expected)
        self.assertEqual(conjugacy(other, one), expected)
        self.assertEqual(conjugacy(one, other, most=0), expected)
        self.assertIs(is_obstruction(one, other, expected), True)
        self.assertIs(is_obstruction(other, one, expected), True)

    def test_other_drifts(self):
        for lanes in range(2, 7):
            source = numbers(202 + lanes)
            made = rich_maps(202, lanes, 7, 6)
            for one in made:
                for other in made:
                    wrong = [lane for lane in range(lanes) if one.drifts()[lane] != other.drifts()[lane]]
                    if wrong:
                        self.both_ways(one, other, ("drift", wrong[0]))
                        self.both_ways(with_cycles(source, one, [2, 1]), other, ("drift", wrong[0]))

    def test_other_numbers_of_cycles(self):
        for lanes in ALL_LANES:
            source = numbers(203 + lanes)
            for turn in range(7):
                made = LaneMap(*parts_of(source, one_way(source, lanes, turn), 3))
                one, other = with_cycles(source, made, [2, 3, 3, 5, 6]), with_cycles(source, made, [2, 3, 5, 6, 7, 1])
                self.both_ways(one, other, ("cycles", 3))
                one, other = with_cycles(source, made, [8, 9, 9]), with_cycles(source, made, [9, 9])
                self.both_ways(one, other, ("cycles", 8))
                one, other = with_cycles(source, made, [9, 10]), with_cycles(source, made, [11, 9])
                self.both_ways(one, other, ("cycles", 10))

    def test_other_numbers_of_fixed_places(self):
        for lanes in range(2, 7):
            source = numbers(204 + lanes)
            wires = [(0, lane, 0) for lane in range(1, lanes)]
            for more in (0, 1, 2):
                made = wired(lanes, wires + [(0, 1, 2)] * more)
                self.assertNotIn(0, made.drifts())
                one, other = with_cycles(source, made, [1, 1, 2]), with_cycles(source, made, [1, 2])
                self.both_ways(one, other, ("fixed",))
                self.both_ways(with_cycles(source, made, [1]), made, ("fixed",))

    def test_fixed_places_do_not_count_beside_a_lane_of_them(self):
        for lanes in range(3, 7):
            source = numbers(205 + lanes)
            made = lead(lanes, 0, 2)
            one, other = with_cycles(source, made, [1, 1, 2]), with_cycles(source, made, [2])
            self.check_plan(one, other, conjugacy(one, other))
            self.check_plan(other, one, conjugacy(other, one))

    def test_two_at_once(self):
        for lanes in range(2, 7):
            source = numbers(206 + lanes)
            made = wired(lanes, [(0, lane, lane % 2) for lane in range(1, lanes)])
            more = wired(lanes, [(0, lane, lane % 2) for lane in range(1, lanes)] + [(0, 1, 0)])
            self.both_ways(with_cycles(source, made, [2, 1]), more, ("drift", 0))
            self.both_ways(with_cycles(source, made, [4, 1]), made, ("cycles", 4))
            self.both_ways(with_cycles(source, made, [3, 2]), made, ("cycles", 2))
            self.both_ways(with_cycles(source, more, [1]), made, ("drift", 0))


class Choices(Judged):
    def test_maps_that_agree_in_all_counts(self):
        words, leaves = {}, {}
        for lanes in range(2, 7):
            for one, other in close_pairs(207, lanes, 25):
                paper = conjugacy(one, other)
                words[paper[0]] = words.get(paper[0], 0) + 1
                back = conjugacy(other, one)
                self.assertEqual(back[0], paper[0])
                if paper[0] == "plan":
                    self.check_plan(one, other, paper)
                    self.check_plan(other, one, back)
                else:
                    leaves.update({leaf[0]: True for leaf in paper[1]})
                    self.check_leaves(one, other, paper)
                    self.check_leaves(other, one, back)
        self.assertEqual(sorted(words), ["choices", "plan"])
        self.assertGreater(words["choices"], 30)
        self.assertEqual(sorted(leaves), ["lane", "part", "ring"])

    def test_a_ring_over_all_lanes(self):
        self.assertEqual(facts(THERE), facts(BACK))
        for one, other in ((THERE, BACK), (BACK, THERE)):
            paper = conjugacy(one, other)
            self.check_leaves(one, other, paper)
            self.assertEqual(len(paper[1]), 8)
            self.assertEqual([len(leaf[1]) for leaf in paper[1] if leaf[0] == "ring"], [6])

    def test_a_ring_beside_the_first_lane(self):
        ways = [(0, 3), (1, 3), (1, 4), (1, 5), (2, 4), (2, 5)]
        one = wired(6, [(source, sink, 2 * ((source, sink) == (1, 4))) for source, sink in ways])
        other = wired(6, [(source, sink, 2 * ((source, sink) == (1, 5))) for source, sink in ways])
        self.assertEqual(facts(one), facts(other))
        for first, second in ((one, other), (other, one)):
            paper = conjugacy(first, second)
            self.check_leaves(first, second, paper)
            self.assertEqual([sorted(leaf[1]) for leaf in paper[1] if leaf[0] == "ring"], [[2, 3, 4, 5]])

    def test_the_same_ring_with_a_plan(self):
        one = wired(6, [(0, 3, 2), (0, 4, 0), (1, 4, 0), (1, 5, 0), (2, 5, 0), (2, 3, 0)])
        other = wired(6, [(0, 3, 0), (0, 4, 0), (1, 4, 2), (1, 5, 0), (2, 5, 0), (2, 3, 0)])
        self.check_plan(one, other, conjugacy(one, other))
        self.check_plan(other, one, conjugacy(other, one))

    def test_roads_that_go_out_elsewhere(self):
        one = wired(4, [(0, 2, 0), (1, 3, 0)])
        other = wired(4, [(0, 3, 0), (1, 2, 0)])
        self.assertEqual(facts(one), facts(other))
        paper = conjugacy(one, other)
        self.check_leaves(one, other, paper)
        self.assertEqual([leaf[0] for leaf in paper[1]], ["lane"])

    def test_a_thousand_choices(self):
        one = wired(4, [(lane, 3, 0) for lane in (0, 1, 2) for turn in range(10)])
        other = compose(one, swap(4, (3, 0), (3, 1)))
        self.assertEqual(facts(one), facts(other))
        paper = conjugacy(one, other)
        self.assertEqual((paper[0], len(paper[1])), ("choices", 1000))
        self.assertIs(is_obstruction(one, other, paper), True)

    def test_alone_on_a_lane_every_choice_may_fail(self):
        one = LaneMap([-1000, 1000], [[(1, at) for at in range(1000)], []])
        other = compose(one, swap(2, (1, 0), (1, 1)))
        paper = conjugacy(one, other)
        self.assertEqual((paper[0], len(paper[1])), ("choices", 1000))
        self.assertIs(is_obstruction(one, other, paper), True)


class Most(Judged):
    def test_the_default(self):
        self.assertEqual(MOST_CHOICES, 1000)
        thousand, more = carried(2, 0, 1, 1000), carried(2, 0, 1, 1001)
        self.assertEqual(conjugacy(thousand, thousand)[0], "plan")
        self.assertEqual(raised(conjugacy, more, more), (TooMany, {"most": 1000}))
        self.assertEqual(conjugacy(more, more, most=1001)[0], "plan")

    def test_beside_the_number_of_choices(self):
        for lanes in ALL_LANES:
            for one, other, by in conjugate_pairs(208, lanes, 7):
                many = len(all_choices(one.drifts()))
                for most in (0, many - 1, many, many + 1, FAR):
                    expected = (TooMany, {"most": most}) if most < many else None
                    self.assertEqual(raised(conjugacy, one, other, most=most), expected)
                    if expected is None:
                        self.assertEqual(conjugacy(one, other, most=most), conjugacy(one, other))

    def test_also_where_there_is_no_plan(self):
        for one, other in close_pairs(209, 4, 10):
            many = len(all_choices(one.drifts()))
            self.assertEqual(raised(conjugacy, one, other, most=many - 1), (TooMany, {"most": many - 1}))
            self.assertEqual(conjugacy(one, other, most=many), conjugacy(one, other))

    def test_one_choice_without_incoming_lanes(self):
        for lanes in ALL_LANES:
            for made in (identity(lanes), swap(lanes, (0, 0), (lanes - 1, 1))):
                self.assertEqual(raised(conjugacy, made, made, most=0), (TooMany, {"most": 0}))
                self.assertEqual(conjugacy(made, made, most=1)[0], "plan")

    def test_far_too_many(self):
        made = wired(6, [(lane, 5, 0) for lane in range(5) for turn in range(400)])
        for most in (1000, 10 ** 6):
            self.assertEqual(raised(conjugacy, made, made, most=most), (TooMany, {"most": most}))
        plan = conjugacy(made, made, most=FAR)
        self.assertIs(is_plan(made, made, plan), True)

    def test_an_obstruction_comes_first(self):
        one = carried(2, 0, 1, 1500)
        self.assertEqual(conjugacy(one, carried(2, 0, 1, 1501)), ("drift", 0))
        source = numbers(211)
        self.assertEqual(conjugacy(one, with_cycles(source, one, [1])), ("fixed",))
        self.assertEqual(conjugacy(with_cycles(source, one, [4, 1]), one, most=0), ("cycles", 4))


class Calls(Judged):
    def test_other_numbers_of_lanes(self):
        for lanes in ALL_LANES:
            for others in ALL_LANES:
                if lanes != others:
                    for most in (0, 1000):
                        one, other = identity(lanes), identity(others)
                        self.assertEqual(raised(conjugacy, one, other, most=most), (OtherLanes, {}))

    def test_by_name(self):
        one, other = lead(2, 0, 1), conjugate(lead(2, 0, 1), swap(2, (0, 0), (1, 3)))
        self.assertEqual(conjugacy(most=1, other=other, one=one), conjugacy(one, other))
        self.assertEqual(conjugacy(other=identity(2), one=lead(2, 0, 1)), ("drift", 0))
        with self.assertRaises(TypeError):
            conjugacy(one, other, 5)

    def test_nothing_changes(self):
        pairs = [pair for lanes in range(2, 7) for pair in close_pairs(210, lanes, 6)]
        for one, other in pairs:
            before = told(one), told(other)
            answer, kept = conjugacy(one, other), conjugacy(one, other)
            self.assertEqual(answer, kept)
            for item in answer[1:]:
                if isinstance(item, list):
                    for leaf in item:
                        if isinstance(leaf, tuple) and leaf[0] == "ring":
                            leaf[1].append(7)
                    item.append(3)
            self.assertEqual(conjugacy(one, other), kept)
            self.assertEqual((told(one), told(other)), before)


if __name__ == "__main__":
    unittest.main()
