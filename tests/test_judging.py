"""is_plan and is_obstruction: what they accept and what they refuse."""

import unittest

from farlanes.algebra import compose
from farlanes.conjugacy import conjugacy
from farlanes.errors import OtherLanes
from farlanes.judging import is_obstruction, is_plan
from farlanes.maps import LaneMap, identity, lead, swap
from tests.samples import (
    FAR, all_choices, carried, changed_plans, close_pairs, conjugate_pairs, facts, numbers, plan_by, raised, ringed,
    slow_gap, slow_leaf, slow_plan, slow_roads, told, wired, with_cycles,
)

ALL_LANES = range(1, 7)
# Two maps with six roads in one ring over six lanes; only the first choice has a ring.
THERE = wired(6, [(0, 3, 1), (0, 4, 0), (1, 4, 0), (1, 5, 0), (2, 5, 0), (2, 3, 0)])
BACK = wired(6, [(0, 3, 0), (0, 4, 1), (1, 4, 0), (1, 5, 0), (2, 5, 0), (2, 3, 0)])
# Two maps with two roads on the same lanes; the gaps differ by a multiple of the drift, so there is a ring of two.
SHORT = wired(2, [(0, 1, 0), (0, 1, 4)])
LONG = wired(2, [(0, 1, 2), (0, 1, 2)])


def without(rows, at):
    return rows[:at] + rows[at + 1:]


def exchanged(rows, one, other):
    rows = list(rows)
    rows[one], rows[other] = rows[other], rows[one]
    return rows


class Plans(unittest.TestCase):
    def refuses(self, one, other, plan):
        self.assertIs(is_plan(one, other, plan), False)
        self.assertFalse(slow_plan(one, other, plan))

    def drawn(self, seed):
        for lanes in ALL_LANES:
            for one, other, by in conjugate_pairs(seed, lanes, 14):
                yield one, other, plan_by(one, other, by)

    def test_plans_of_drawn_conjugators(self):
        for one, other, plan in self.drawn(230):
            word, moves, pairs, rings = plan
            for each in (plan, (word, tuple(moves), tuple(pairs), tuple(rings)), (word, tuple(moves), pairs, rings)):
                self.assertIs(is_plan(one, other, each), True)

    def test_one_number_changed(self):
        seen = {}
        for one, other, plan in self.drawn(231):
            for changed in changed_plans(plan):
                expected = slow_plan(one, other, changed)
                self.assertIs(is_plan(one, other, changed), expected)
                seen[expected] = True
        self.assertEqual(sorted(seen), [False, True])

    def test_the_first_item(self):
        for one, other, plan in self.drawn(232):
            for word in ("", "Plan", "plans", "root", "drift", "pla"):
                self.refuses(one, other, (word,) + plan[1:])

    def test_the_number_of_moves(self):
        for one, other, (word, moves, pairs, rings) in self.drawn(233):
            for others in (moves + [0], [0] + moves, [], moves[:-1], moves[1:], moves + [1, -1]):
                if others != moves:
                    self.refuses(one, other, (word, others, pairs, rings))

    def test_the_sum_of_the_moves(self):
        for one, other, (word, moves, pairs, rings) in self.drawn(234):
            for lane in range(len(moves)):
                for by in (1, -1, FAR):
                    bent = moves[:lane] + [moves[lane] + by] + moves[lane + 1:]
                    self.refuses(one, other, (word, bent, pairs, rings))

    def test_moves_with_the_same_sum(self):
        seen = {}
        for one, other, (word, moves, pairs, rings) in self.drawn(235):
            for lane in range(1, len(moves)):
                bent = [moves[0] + 1] + moves[1:]
                bent[lane] -= 1
                still = one.drifts()[0] == 0 and one.drifts()[lane] == 0
                self.assertIs(is_plan(one, other, (word, bent, pairs, rings)), still)
                seen[still] = True
        self.assertEqual(sorted(seen), [False, True])

    def test_roads_named_twice_or_left_out(self):
        for one, other, (word, moves, pairs, rings) in self.drawn(236):
            self.refuses(one, other, (word, moves, pairs + [(0, 0)], rings))
            self.refuses(one, other, (word, moves, pairs + [(len(pairs), 0)], rings))
            for at in range(len(pairs)):
                self.refuses(one, other, (word, moves, without(pairs, at), rings))
                self.refuses(one, other, (word, moves, pairs + [pairs[at]], rings))
                for number in (-1, len(pairs), FAR, -FAR, pairs[at - 1][0] if len(pairs) > 1 else 1):
                    bent = pairs[:at] + [(number, pairs[at][1])] + pairs[at + 1:]
                    self.refuses(one, other, (word, moves, bent, rings))

    def test_roads_exchanged(self):
        seen = {}
        for one, other, (word, moves, pairs, rings) in self.drawn(237):
            for at in range(len(pairs) - 1):
                bent = exchanged(pairs, at, at + 1)
                expected = slow_plan(one, other, (word, moves, bent, rings))
                self.assertIs(is_plan(one, other, (word, moves, bent, rings)), expected)
                seen[expected] = True
        self.assertIn(False, seen)

    def test_roads_on_other_lanes(self):
        one, other = wired(4, [(0, 2, 0), (1, 3, 0)]), wired(4, [(0, 3, 0), (1, 2, 0)])
        for moves in ([0, 0, 0, 0], [0, 0, 1, -1], [-1, 1, 0, 0]):
            for pairs in ([(0, 0), (1, 0)], [(1, 0), (0, 0)]):
                self.refuses(one, other, ("plan", moves, pairs, []))
                self.refuses(one, one, ("plan", moves, [(1, 0), (0, 0)], []))
        self.assertIs(is_plan(one, one, ("plan", [0, 0, 0, 0], [(0, 0), (1, 0)], [])), True)
        out = wired(3, [(0, 1, 0), (0, 2, 0)])
        self.assertIs(is_plan(out, out, ("plan", [0, 0, 0], [(0, 0), (1, 0)], [])), True)
        self.refuses(out, out, ("plan", [1, 0, -1], [(1, 0), (0, 0)], []))

    def test_shifts_of_roads(self):
        for one, other, (word, moves, pairs, rings) in self.drawn(238):
            for at, (number, shift) in enumerate(pairs):
                for by in (1, -1, 7, FAR):
                    bent = pairs[:at] + [(number, shift + by)] + pairs[at + 1:]
                    self.refuses(one, other, (word, moves, bent, rings))

    def test_each_lane_of_a_shift_is_asked(self):
        step = lead(3, 0, 1)
        for shift in (-3, 0, 2, FAR):
            self.assertIs(is_plan(step, step, ("plan", [-shift, shift, 0], [(0, shift)], [])), True)
            self.refuses(step, step, ("plan", [-shift - 1, shift, 1], [(0, shift)], []))
            self.refuses(step, step, ("plan", [-shift, shift + 1, -1], [(0, shift)], []))

    def test_cycles(self):
        for one, other, (word, moves, pairs, rings) in self.drawn(239):
            self.refuses(one, other, (word, moves, pairs, rings + [(len(rings), 0)]))
            self.refuses(one, other, (word, moves, pairs, rings + [(0, 0)]))
            for at, (number, shift) in enumerate(rings):
                self.refuses(one, other, (word, moves, pairs, without(rings, at)))
                for wrong in (-1, len(rings), FAR):
                    bent = rings[:at] + [(wrong, shift)] + rings[at + 1:]
                    self.refuses(one, other, (word, moves, pairs, bent))
                for wrong in (-1, 6, FAR, -FAR):
                    bent = rings[:at] + [(number, wrong)] + rings[at + 1:]
                    expected = slow_plan(one, other, (word, moves, pairs, bent))
                    self.assertIs(is_plan(one, other, (word, moves, pairs, bent)), expected)

    def test_cycles_of_another_length_and_shifts_out_of_range(self):
        made = ringed([2, 3, 2])[0]
        good = [(2, 1), (1, 2), (0, 0)]
        self.assertIs(is_plan(made, made, ("plan", [0], [], good)), True)
        for rings in (
            [(2, 1), (0, 1), (1, 0)], [(1, 1), (2, 0), (0, 0)], [(2, 1), (1, 2), (2, 0)], [(2, 2), (1, 2), (0, 0)],
            [(2, 1), (1, 3), (0, 0)], [(2, 1), (1, -1), (0, 0)], [(2, 1), (1, 2), (0, 2)], [(2, 1), (1, 2)],
            [(2, 1), (1, 2), (0, 0), (3, 0)], [],
        ):
            self.refuses(made, made, ("plan", [0], [], rings))

    def test_fewer_cycles_of_the_other_map(self):
        one, other = ringed([2, 2, 3])[0], ringed([2, 3])[0]
        self.assertIs(is_plan(one, one, ("plan", [0], [], [(0, 0), (1, 0), (2, 0)])), True)
        for rings in ([(0, 0)], [(0, 0), (1, 0)], [(0, 0), (1, 0), (1, 0)], [(0, 0), (0, 0), (1, 0)]):
            self.refuses(one, other, ("plan", [0], [], rings))
            self.refuses(other, one, ("plan", [0], [], rings))
        self.refuses(ringed([2, 2])[0], ringed([2])[0], ("plan", [0], [], [(0, 0)]))

    def test_other_numbers_of_fixed_places(self):
        source = numbers(240)
        for lanes in range(2, 7):
            made = wired(lanes, [(0, lane, 0) for lane in range(1, lanes)])
            one = with_cycles(source, made, [1, 1])
            still = conjugacy(made, made)
            for plan in (still, conjugacy(one, one)):
                self.refuses(one, made, plan)
                self.refuses(made, one, plan)
        one, other = LaneMap([-1, 1], [[(0, 0), (1, 0)], []]), lead(2, 0, 1)
        for moves in ([-1, 0], [-1, 1], [0, 0], [1, 0]):
            for shift in (-1, 0, 1):
                self.refuses(one, other, ("plan", moves, [(0, shift)], []))

    def test_other_drifts(self):
        for lanes in range(2, 7):
            zeros = [0] * lanes
            self.refuses(lead(lanes, 0, 1), lead(lanes, 1, 0), ("plan", zeros, [(0, 0)], []))
            self.refuses(lead(lanes, 0, 1), identity(lanes), ("plan", zeros, [(0, 0)], []))
            self.refuses(identity(lanes), lead(lanes, 0, 1), ("plan", zeros, [], []))

    def test_empty_lists(self):
        for lanes in ALL_LANES:
            self.assertIs(is_plan(identity(lanes), identity(lanes), ("plan", [0] * lanes, [], [])), True)
            self.refuses(identity(lanes), identity(lanes), ("plan", [], [], []))
            self.refuses(identity(lanes), swap(lanes, (0, 0), (0, 1)), ("plan", [0] * lanes, [], []))


class PlainObstructions(unittest.TestCase):
    def refuses(self, one, other, paper):
        self.assertIs(is_obstruction(one, other, paper), False)

    def test_drifts(self):
        for lanes in range(2, 7):
            one, other = lead(lanes, 0, 1), lead(lanes, lanes - 1, 0)
            for lane in (-lanes, -1, *range(lanes), lanes, FAR, -FAR):
                there = 0 <= lane < lanes and one.drifts()[lane] != other.drifts()[lane]
                self.assertIs(is_obstruction(one, other, ("drift", lane)), there)
                self.refuses(one, one, ("drift", lane))

    def test_cycles(self):
        for lanes in ALL_LANES:
            source = numbers(241 + lanes)
            for made in (identity(lanes), lead(lanes, 0, lanes - 1) if lanes > 1 else identity(1)):
                one, other = with_cycles(source, made, [2, 3, 3, 1]), with_cycles(source, made, [2, 3, 4])
                for length in (-1, 0, 1, 2, 3, 4, 5, FAR, -FAR):
                    self.assertIs(is_obstruction(one, other, ("cycles", length)), length in (3, 4))
                    self.assertIs(is_obstruction(other, one, ("cycles", length)), length in (3, 4))
                    self.refuses(one, one, ("cycles", length))

    def test_cycles_of_maps_with_other_drifts(self):
        one, other = swap(2, (0, 0), (1, 0)), lead(2, 0, 1)
        self.assertIs(is_obstruction(one, other, ("cycles", 2)), True)
        self.refuses(one, other, ("cycles", 3))
        self.assertIs(is_obstruction(one, other, ("drift", 1)), True)

    def test_fixed(self):
        one, other = LaneMap([-1, 1], [[(0, 0), (1, 0)], []]), lead(2, 0, 1)
        self.assertIs(is_obstruction(one, other, ("fixed",)), True)
        self.assertIs(is_obstruction(other, one, ("fixed",)), True)
        self.refuses(one, one, ("fixed",))
        self.refuses(one, lead(2, 1, 0), ("fixed",))
        self.refuses(LaneMap([-1, 1, 0], [[(0, 0), (1, 0)], [], []]), lead(3, 0, 1), ("fixed",))
        self.refuses(swap(1, (0, 1), (0, 2)), swap(1, (0, 0), (0, 1)), ("fixed",))

    def test_other_forms(self):
        one, other = LaneMap([-1, 1], [[(0, 0), (1, 0)], []]), lead(2, 0, 1)
        pairs = [(one, other), (lead(2, 1, 0), other), (swap(2, (0, 0), (0, 1)), identity(2)), (one, one)]
        for first, second in pairs:
            for paper in (
                ("",), ("drift",), ("cycles",), ("choices",), ("fixed", 0), ("fixed", ()), ("fixed", []),
                ("fixed", "x"), ("drift", 0, 0), ("drift", "0"), ("drift", [0]), ("drift", (0,)), ("drift", ()),
                ("drift", [[], ()]), ("cycles", 2, 2), ("cycles", "2"), ("cycles", [2]), ("cycles", (2,)),
                ("Drift", 0), ("cycle", 2), ("fix",), ("", 0), ("lane", 0), ("part", 0, 0), ("ring", [0, 0]),
                ("plan", [0, 0], [], []), ("choices", 0), ("choices", "ab"), ("choices", "a"), ("choices", []),
                ("choices", ()), ("choices", [], []), ("choices", [()]), ("choices", [[]]), ("choices", [0]),
                ("choices", ["lane"]), ("choices", ("lane", 0)),
            ):
                self.refuses(first, second, paper)


class Choices(unittest.TestCase):
    def refuses(self, one, other, leaves):
        self.assertIs(is_obstruction(one, other, ("choices", leaves)), False)
        self.assertIs(is_obstruction(one, other, ("choices", tuple(leaves))), False)

    def drawn(self, seed, many):
        """Maps that are not conjugate, with the leaves that conjugacy finds."""
        for lanes in range(2, 7):
            for one, other in close_pairs(seed, lanes, many):
                paper = conjugacy(one, other)
                if paper[0] == "choices":
                    yield one, other, paper[1]

    def test_found_leaves(self):
        for one, other, leaves in self.drawn(242, 15):
            closed = [("ring", tuple(leaf[1])) if leaf[0] == "ring" else leaf for leaf in leaves]
            for each in (leaves, tuple(leaves), closed, tuple(closed)):
                self.assertIs(is_obstruction(one, other, ("choices", each)), True)

    def test_found_leaves_behind_another_word(self):
        for one, other, leaves in self.drawn(251, 4):
            for word in ("", "choice", "Choices", "leaves", "ring", "plan", "cycles", "drift", "fixed"):
                self.assertIs(is_obstruction(one, other, (word, leaves)), False)
            self.assertIs(is_obstruction(one, other, ("choices", leaves, leaves)), False)
            self.assertIs(is_obstruction(one, other, ("choices",) + tuple(leaves)), False)

    def test_leaves_removed_and_added(self):
        for one, other, leaves in self.drawn(243, 15):
            self.refuses(one, other, [])
            for at in range(len(leaves)):
                self.refuses(one, other, without(leaves, at))
                self.refuses(one, other, leaves + [leaves[at]])
                self.refuses(one, other, leaves[:at] + [leaves[at]] + leaves[at:])

    def test_leaves_in_other_places(self):
        seen = {}
        for one, other, leaves in self.drawn(244, 25):
            choices = all_choices(one.drifts())
            for at in range(len(leaves)):
                for there in range(len(leaves)):
                    moved = leaves[:at] + [leaves[there]] + leaves[at + 1:]
                    for bent in (moved, exchanged(leaves, at, there)):
                        expected = all(slow_leaf(one, other, *each) for each in zip(choices, bent))
                        self.assertIs(is_obstruction(one, other, ("choices", bent)), expected)
                        seen[expected] = True
        self.assertEqual(sorted(seen), [False, True])

    def test_all_small_leaves(self):
        seen = {}
        for one, other, leaves in self.drawn(245, 8):
            many = len(slow_roads(one))
            for at, choice in enumerate(all_choices(one.drifts())[:4]):
                for first in range(-1, many + 1):
                    shapes = [("lane", first)]
                    for second in range(-1, many + 1):
                        shapes += [("part", first, second), ("ring", [first, second])]
                    for leaf in shapes:
                        bent = leaves[:at] + [leaf] + leaves[at + 1:]
                        expected = slow_leaf(one, other, choice, leaf)
                        self.assertIs(is_obstruction(one, other, ("choices", bent)), expected)
                        seen[(leaf[0], expected)] = True
        self.assertEqual(len(seen), 6)

    def test_rings_of_four(self):
        seen = {}
        for one, other, leaves in self.drawn(246, 8):
            many = len(slow_roads(one))
            source = numbers(246 + many)
            choices = all_choices(one.drifts())
            for turn in range(60):
                at = source.randrange(len(leaves))
                leaf = ("ring", [source.randrange(many) for step in range(source.choice((4, 4, 6)))])
                expected = slow_leaf(one, other, choices[at], leaf)
                bent = leaves[:at] + [leaf] + leaves[at + 1:]
                self.assertIs(is_obstruction(one, other, ("choices", bent)), expected)
                seen[expected] = True
        self.assertEqual(sorted(seen), [False, True])

    def test_roads_that_do_not_exist(self):
        for one, other, leaves in self.drawn(247, 10):
            many = len(slow_roads(one))
            for at, leaf in enumerate(leaves):
                for wrong in (-1, -many, many, FAR, -FAR):
                    if leaf[0] == "ring":
                        bents = [("ring", [wrong] + leaf[1][1:]), ("ring", leaf[1][:-1] + [wrong])]
                    else:
                        bents = [leaf[:1] + (wrong,) + leaf[2:], leaf[:-1] + (wrong,)]
                    for bent in bents:
                        self.refuses(one, other, leaves[:at] + [bent] + leaves[at + 1:])

    def test_leaves_of_other_forms(self):
        for one, other, leaves in self.drawn(248, 4):
            for at, leaf in enumerate(leaves):
                wrongs = [
                    (), [], 0, "lane", "", list(leaf), leaf + (0,), leaf[:1], leaf[1:], (leaf,), [leaf], ("lane",),
                    ("part", 0), ("ring",), ("ring", 0), ("ring", "00"), ("ring", ""), ("ring", []), ("ring", ()),
                    ("ring", 0, 1), ("ring", [0, 1], 0), ("lane", "0"), ("lane", [0]), ("lane", (0,)), ("lane", ()),
                    ("part", "0", "1"), ("part", [0, 1]), ("part", (0, 1)), ("part", [0], [1]), ("part", 0, (1,)),
                    ("ring", ["0", "1"]), ("ring", [[0], [1]]), ("ring", [(0, 1)]), ("ring", [(0,), (1,)]), (0, 0),
                    ((), 0), ([], 0), (("lane", 0), 0), ("choices", leaves), ("drift", 0), ("Lane", 0), ("parts", 0, 1),
                ]
                for wrong in wrongs:
                    self.refuses(one, other, leaves[:at] + [wrong] + leaves[at + 1:])

    def test_the_ring_over_all_lanes(self):
        leaves = conjugacy(THERE, BACK)[1]
        ring = leaves[0][1]
        self.assertEqual((leaves[0][0], len(ring)), ("ring", 6))
        rest = leaves[1:]
        for good in (
            ring[::-1], ring[2:] + ring[:2], ring * 2, ring[:2] + [ring[1], ring[1]] + ring[2:],
            ring[:2] + [ring[2], ring[2]] + ring[2:],
        ):
            self.assertTrue(slow_leaf(THERE, BACK, (0, 0, 0), ("ring", good)))
            self.assertIs(is_obstruction(THERE, BACK, ("choices", [("ring", good)] + rest)), True)
            self.assertIs(is_obstruction(THERE, BACK, ("choices", [("ring", tuple(good))] + rest)), True)
        back = [road for at in range(0, 6, 2) for road in (ring[at + 1], ring[at])]
        for bad in (
            ring[:-1], ring[:-2], ring[1:], ring[1:] + ring[:1], ring + ring[:1], ring[:2], ring[:4], [],
            ring + ring[::-1], exchanged(ring, 0, 1), exchanged(ring, 2, 4), back, [ring[0], ring[0]], [ring[0]],
            ring[:2] + [ring[0], ring[0]] + ring[2:],
        ):
            self.assertFalse(slow_leaf(THERE, BACK, (0, 0, 0), ("ring", bad)))
            self.refuses(THERE, BACK, [("ring", bad)] + rest)

    def judged(self, one, other, leaves):
        """What is_obstruction says, which must be what the document says."""
        choices = all_choices(one.drifts())
        answer = is_obstruction(one, other, ("choices", leaves))
        self.assertIs(answer, all(slow_leaf(one, other, *each) for each in zip(choices, leaves)))
        return answer

    def test_rings_of_two_roads(self):
        self.assertEqual(facts(SHORT), facts(LONG))
        gaps = [[slow_gap(SHORT, LONG, choice, road) for road in (0, 1)] for choice in ((0,), (1,))]
        self.assertEqual(gaps, [[-4, 4], [-3, 1]])
        ring, back = ("ring", [0, 1]), ("ring", [1, 0])
        for leaves in ([ring, ring], [ring, back], [back, back], [("ring", [0, 1, 1, 1]), ring]):
            self.assertIs(self.judged(SHORT, LONG, leaves), True)
        for leaf in (("ring", [0, 0]), ("ring", [0, 1, 1, 0]), ("ring", [0, 1, 0]), ("part", 0, 1), ("lane", 0)):
            self.assertIs(self.judged(SHORT, LONG, [leaf, ring]), False)
            self.assertIs(self.judged(SHORT, LONG, [ring, leaf]), False)

    def test_parts_of_three_roads(self):
        one = wired(2, [(0, 1, 0)] * 3)
        other = compose(one, swap(2, (1, 0), (1, 1)))
        self.assertEqual(facts(one), facts(other))
        gaps = [[slow_gap(one, other, (rest,), road) for road in range(3)] for rest in range(3)]
        self.assertEqual(gaps, [[1, -1, 0], [0, 1, -4], [2, -3, -5]])
        part = ("part", 0, 1)
        for first, second in ((0, 1), (1, 0), (0, 2), (2, 0), (1, 2), (2, 1)):
            for at in range(3):
                leaves = [part] * at + [("part", first, second)] + [part] * (2 - at)
                self.assertIs(self.judged(one, other, leaves), True)
                leaves[at] = ("ring", [first, second])
                self.assertIs(self.judged(one, other, leaves), False)
        for leaf in (("part", 0, 0), ("part", 2, 2), ("lane", 0), ("ring", [0, 1, 1, 2])):
            self.assertIs(self.judged(one, other, [part, part, leaf]), False)

    def test_never_for_conjugate_maps(self):
        for lanes in range(2, 7):
            for one, other, by in conjugate_pairs(249, lanes, 7):
                many = len(slow_roads(one))
                shapes = [("lane", a) for a in range(many)]
                shapes += [("part", a, b) for a in range(many) for b in range(many)]
                shapes += [("ring", [a, b]) for a in range(many) for b in range(many)]
                choices = all_choices(one.drifts())
                right = [[leaf for leaf in shapes if slow_leaf(one, other, choice, leaf)] for choice in choices]
                self.assertIn([], right)
                self.refuses(one, other, [(rows + [("lane", 0)])[0] for rows in right])

    def test_without_incoming_lanes(self):
        for lanes in ALL_LANES:
            for one, other in ((identity(lanes), identity(lanes)), (identity(lanes), swap(lanes, (0, 0), (0, 1)))):
                for leaves in ([], [("lane", 0)], [("ring", [])], [("part", 0, 0)], [()]):
                    self.refuses(one, other, leaves)

    def test_other_drifts(self):
        self.refuses(lead(4, 0, 1), lead(4, 0, 2), [("lane", 0)])
        self.refuses(lead(4, 0, 1), lead(4, 1, 0), [("lane", 0)])
        one, other = wired(4, [(0, 2, 0), (1, 3, 0)]), wired(4, [(0, 3, 0), (1, 2, 0)])
        self.assertIs(is_obstruction(one, other, ("choices", [("lane", 0)])), True)
        self.assertIs(is_obstruction(one, other, ("choices", [("lane", 1)])), True)

    def test_far_too_many_choices(self):
        one = wired(6, [(lane, 5, 0) for lane in range(5) for turn in range(400)])
        other = compose(one, swap(6, (5, 0), (5, 1)))
        self.refuses(one, other, [("part", 0, 1)] * 2000)


class Calls(unittest.TestCase):
    def test_other_numbers_of_lanes(self):
        for lanes in ALL_LANES:
            for others in ALL_LANES:
                expected = None if lanes == others else (OtherLanes, {})
                one, other = identity(lanes), identity(others)
                for plan in (("plan", [0] * lanes, [], []), ("", [], [], [])):
                    self.assertEqual(raised(is_plan, one, other, plan), expected)
                for paper in (("drift", 0), ("fixed",), ("choices", []), ("", 0, 0)):
                    self.assertEqual(raised(is_obstruction, one, other, paper), expected)

    def test_by_name(self):
        step, plan = lead(2, 0, 1), ("plan", [-1, 1], [(0, 1)], [])
        self.assertIs(is_plan(plan=plan, other=step, one=step), True)
        self.assertIs(is_obstruction(paper=("drift", 0), other=step, one=identity(2)), True)
        one, other = carried(2, 0, 1, 2), lead(2, 0, 1)
        self.assertIs(is_plan(one=one, other=other, plan=plan), False)

    def test_nothing_changes(self):
        for lanes in range(2, 7):
            for one, other in close_pairs(250, lanes, 6):
                before = told(one), told(other)
                paper, kept = conjugacy(one, other), conjugacy(one, other)
                judge = is_plan if paper[0] == "plan" else is_obstruction
                self.assertIs(judge(one, other, paper), True)
                self.assertEqual(paper, kept)
                for item in paper[1:]:
                    item.append(("lane", 0) if paper[0] == "choices" else (0, 0))
                self.assertIs(judge(one, other, kept), True)
                self.assertEqual((told(one), told(other)), before)


if __name__ == "__main__":
    unittest.main()
