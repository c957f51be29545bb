"""from_moves and moves_of, against compose."""

import unittest

from farlanes.algebra import compose, inverse
from farlanes.errors import BadLanes, BadMove, TooWide
from farlanes.maps import LaneMap, identity, lead, swap
from farlanes.moves import from_moves, moves_of
from farlanes.travel import power
from tests.samples import (
    FAR, balanced, carried, far_places, near_places, numbers, raised, rich_maps, some_maps, told, turned,
)

ALL_LANES = range(1, 7)
WIDE = (TooWide, {"most": 2000})


def drawn_place(source, lanes, reach=9):
    return (source.randrange(lanes), source.randrange(reach))


def drawn_move(source, lanes, reach=9):
    """A lead, if there are two lanes, or a swap."""
    if lanes > 1 and source.random() < 0.5:
        return ("lead", *source.sample(range(lanes), 2))
    return ("swap", drawn_place(source, lanes, reach), drawn_place(source, lanes, reach))


def map_of(lanes, move):
    return lead(lanes, *move[1:]) if move[0] == "lead" else swap(lanes, *move[1:])


def composed(lanes, moves):
    made = identity(lanes)
    for move in moves:
        made = compose(made, map_of(lanes, move))
    return made


def wrong_moves(lanes):
    """Tuples that are no moves of these lanes."""
    last = lanes - 1
    good, place = ("swap", (0, 0), (last, 1)), (0, 0)
    found = [(), ("lead",), ("swap",), ("lead", 0), ("swap", place), good + (place,), ("lead", 0, last, 0)]
    found += [("turn",) + good[1:], ("Lead", 0, last), ("", 0, last), ("identity",), ("name", "a"), ("load", "a")]
    found += [("swap ", place, place), ("conjugate", place, place), (0, 0, last), (None, 0, last)]
    found += [("swap", 0, last), ("lead", place, (last, 0)), ("swap", (0,), place), ("swap", place, (0, 0, 0)),
              ("swap", (), ())]
    found += [("lead", "0", last), ("swap", (0, "0"), place), ("swap", place, 0), ("lead", 0, place),
              ("swap", [0, 0], place)]
    found += [("lead", lane, lane) for lane in (-1, 0, last, lanes, FAR)]
    for lane in (-1, -2, lanes, lanes + 1, FAR, -FAR):
        found += [("lead", lane, 0), ("lead", 0, lane), ("swap", (lane, 0), place), ("swap", place, (lane, 0))]
        found += [("swap", (lane, 0), (lane, 0))]
    for at in (-1, -2, -FAR):
        found += [("swap", (last, at), place), ("swap", place, (last, at)), ("swap", (0, at), (0, at))]
    return found


class FromMoves(unittest.TestCase):
    def test_no_moves(self):
        for lanes in ALL_LANES:
            self.assertTrue(from_moves(lanes, []) == identity(lanes))
            self.assertTrue(from_moves(lanes, ()) == identity(lanes))

    def test_one_move(self):
        for lanes in ALL_LANES:
            for source in range(lanes):
                for sink in range(lanes):
                    if source != sink:
                        self.assertTrue(from_moves(lanes, [("lead", source, sink)]) == lead(lanes, source, sink))
            for one in near_places(lanes, 4):
                for other in near_places(lanes, 4):
                    self.assertTrue(from_moves(lanes, [("swap", one, other)]) == swap(lanes, one, other))

    def test_against_compose(self):
        for lanes in ALL_LANES:
            source = numbers(4000 + lanes)
            for turn in range(250):
                moves = [drawn_move(source, lanes, source.choice((2, 4, 9))) for each in range(source.randint(0, 12))]
                made = from_moves(lanes, moves)
                self.assertIsInstance(made, LaneMap)
                self.assertTrue(made == composed(lanes, moves), moves)
                self.assertTrue(from_moves(lanes, tuple(moves)) == made)

    def test_many_moves(self):
        for lanes in ALL_LANES:
            source = numbers(4010 + lanes)
            moves = [drawn_move(source, lanes) for each in range(150)]
            self.assertTrue(from_moves(lanes, moves) == composed(lanes, moves))
            back = [(word, other, one) for word, one, other in reversed(moves)]
            undone = from_moves(lanes, moves + back)
            self.assertTrue(undone == identity(lanes))
            self.assertEqual(len(undone), 0)

    def test_the_greatest_width_by_leads(self):
        for lanes in range(2, 7):
            leads = [("lead", 0, lanes - 1)] * 2000
            self.assertTrue(from_moves(lanes, leads) == power(lead(lanes, 0, lanes - 1), 2000))
            self.assertEqual(raised(from_moves, lanes, leads + [("lead", 0, lanes - 1)]), WIDE)
            self.assertTrue(from_moves(lanes, leads + [("lead", lanes - 1, 0)] * 2000) == identity(lanes))

    def test_one_place_twice(self):
        for lanes in ALL_LANES:
            for place in far_places(lanes) + [(0, 5000), (lanes - 1, 2000)]:
                self.assertTrue(from_moves(lanes, [("swap", place, place)]) == identity(lanes))


class Errors(unittest.TestCase):
    def test_numbers_of_lanes(self):
        for lanes in (0, 7, -1, 8, FAR, -FAR):
            for moves in ([], [("lead", 0, 0)], [("swap", (0, 0), (0, 5000))], [()]):
                self.assertEqual(raised(from_moves, lanes, moves), (BadLanes, {}))

    def test_each_wrong_move(self):
        for lanes in ALL_LANES:
            good = ("swap", (0, 0), (lanes - 1, 1))
            for wrong in wrong_moves(lanes):
                for at in range(3):
                    moves = [good] * at + [wrong] + [good, wrong]
                    self.assertEqual(raised(from_moves, lanes, moves), (BadMove, {"at": at}), moves)

    def test_a_wrong_move_comes_before_a_wide_one(self):
        for lanes in ALL_LANES:
            wide = ("swap", (0, 0), (0, 2000))
            for wrong in wrong_moves(lanes):
                self.assertEqual(raised(from_moves, lanes, [wide, wide, wrong]), (BadMove, {"at": 2}))
            self.assertEqual(raised(from_moves, lanes, [wide]), WIDE)

    def test_wide_moves(self):
        for lanes in ALL_LANES:
            last = lanes - 1
            for one, other in (((0, 3), (0, 2000)), ((last, FAR), (0, 0)), ((0, FAR), (last, FAR - 1))):
                self.assertEqual(raised(from_moves, lanes, [("swap", one, other)]), WIDE)
                self.assertEqual(raised(from_moves, lanes, [("swap", one, other)] * 2), WIDE)
            self.assertEqual(len(from_moves(lanes, [("swap", (0, 3), (0, 1999))])), 2000)
            if lanes > 1:
                self.assertEqual(len(from_moves(lanes, [("swap", (0, 999), (1, 999))])), 2000)
                self.assertEqual(raised(from_moves, lanes, [("swap", (0, 999), (1, 1000))]), WIDE)

    def test_a_wide_composition_of_narrow_moves(self):
        for lanes in range(2, 7):
            one, other = ("swap", (0, 0), (0, 1299)), ("swap", (1, 0), (1, 699))
            self.assertEqual(len(from_moves(lanes, [one, other])), 2000)
            wider = ("swap", (1, 0), (1, 700))
            self.assertEqual(raised(from_moves, lanes, [one, wider]), WIDE)
            self.assertEqual(raised(from_moves, lanes, [one, wider, one, wider]), WIDE)
            self.assertTrue(from_moves(lanes, [one, one, wider, wider]) == identity(lanes))
            # A lane that was changed and is plain again has no part in the width.
            twice = [("swap", (lanes - 1, 0), (lanes - 1, 1))] * 2
            self.assertEqual(len(from_moves(lanes, twice + [one, other])), 2000)
            self.assertEqual(raised(from_moves, lanes, twice + [one, wider]), WIDE)
            self.assertEqual(raised(from_moves, lanes, twice + [one, wider, wider]), WIDE)

    def test_the_first_moves_alone(self):
        """A composition of the first moves that is too wide is refused, whatever follows."""
        seen = {}
        for lanes in ALL_LANES:
            source = numbers(4020 + lanes)
            for turn in range(40):
                moves = [drawn_move(source, lanes, source.choice((5, 700, 2010))) for each in range(6)]
                moves += [(word, other, one) for word, one, other in reversed(moves)]
                expected = raised(composed, lanes, moves)
                self.assertEqual(raised(from_moves, lanes, moves), expected)
                seen[expected is None] = True
        self.assertEqual(sorted(seen), [False, True])


def ended(source, lanes, width, drifts):
    """A map of this width in which the last place of each lane that has inner places is exchanged with another."""
    while True:
        least = [max(0, -drift) for drift in drifts]
        spare = width - sum(least)
        cuts = sorted(source.randint(0, spare) for lane in range(lanes - 1))
        sizes = [low + more for low, more in zip(least, [b - a for a, b in zip([0] + cuts, cuts + [spare])])]
        free = [(lane, at) for lane in range(lanes) for at in range(sizes[lane] + drifts[lane])]
        source.shuffle(free)
        goals = []
        for size in sizes:
            goals.append(free[:size])
            free = free[size:]
        made = LaneMap(drifts, goals)
        if len(made) == width:
            return made


class MovesOf(unittest.TestCase):
    def check(self, made):
        before = told(made)
        moves = moves_of(made)
        self.assertIsInstance(moves, list)
        leads = sum(max(0, drift) for drift in made.drifts())
        words = [move[0] for move in moves]
        self.assertEqual(words, ["lead"] * leads + ["swap"] * (len(moves) - leads))
        self.assertEqual([move for move in moves if not isinstance(move, tuple) or len(move) != 3], [])
        self.assertTrue(from_moves(made.lanes(), moves) == made)
        self.assertEqual(told(made), before)
        return moves

    def test_drawn_maps(self):
        for lanes in ALL_LANES:
            for made in some_maps(402, lanes, 60) + rich_maps(402, lanes, 25):
                moves = self.check(made)
                self.assertTrue(composed(lanes, moves) == made)

    def test_some_maps(self):
        for lanes in ALL_LANES:
            self.assertEqual(moves_of(identity(lanes)), [])
            self.assertEqual(len(self.check(swap(lanes, (0, 0), (lanes - 1, 5)))), 1)
            self.check(turned(lanes, 0, 30))
        for lanes in range(2, 7):
            self.assertEqual(moves_of(lead(lanes, 0, lanes - 1)), [("lead", 0, lanes - 1)])
            self.check(inverse(carried(lanes, 0, 1, 17)))

    def test_widths_near_400(self):
        for lanes in ALL_LANES:
            source = numbers(4030 + lanes)
            for width in range(396, 401):
                for most in (0, 3, 40, 40):
                    self.check(ended(source, lanes, width, balanced(source, lanes, most)))

    def test_the_last_places_of_all_lanes_are_exchanged(self):
        for lanes in range(2, 7):
            for width in range(396, 401):
                for many in (0, 1, 39, 40):
                    made = power(lead(lanes, 0, lanes - 1), many)
                    sizes = [width // lanes] * lanes
                    sizes[0] += width % lanes
                    ends = [(lane, size - 1) for lane, size in enumerate(sizes)]
                    for one, other in zip(ends, ends[1:]):
                        made = compose(swap(lanes, one, other), made)
                    self.assertEqual(len(made), width)
                    self.check(made)

    def test_one_lane(self):
        for width in range(396, 401):
            self.check(turned(1, 0, width))
            self.check(swap(1, (0, 3), (0, width - 1)))

    def test_the_greatest_widths(self):
        for lanes in range(2, 7):
            self.check(power(lead(lanes, 0, lanes - 1), 2000))
            source = numbers(4040 + lanes)
            self.check(ended(source, lanes, 2000, balanced(source, lanes, 60)))
            self.check(turned(lanes, lanes - 1, 2000))


class Calls(unittest.TestCase):
    def test_by_name(self):
        made = from_moves(moves=[("lead", 0, 1)], lanes=2)
        self.assertTrue(made == lead(2, 0, 1))
        self.assertEqual(moves_of(lane_map=made), [("lead", 0, 1)])

    def test_nothing_changes(self):
        for lanes in ALL_LANES:
            source = numbers(4050 + lanes)
            moves = [drawn_move(source, lanes) for each in range(9)]
            kept = list(moves)
            made = from_moves(lanes, moves)
            before = told(made)
            self.assertEqual(moves, kept)
            raised(from_moves, lanes, moves + [("lead", 0, 0)])
            raised(from_moves, lanes, moves + [("swap", (0, 0), (0, FAR))])
            self.assertEqual(moves, kept)
            moves.clear()
            self.assertEqual(told(made), before)
            returned = moves_of(made)
            again = list(returned)
            returned.append(("lead", 0, 0))
            self.assertEqual(moves_of(made), again)
            self.assertEqual(told(made), before)


if __name__ == "__main__":
    unittest.main()
