"""Judging whether a plan holds, and whether a tuple is an obstruction."""

from farlanes.algebra import check_same_lanes
from farlanes.pairing import Pairing, choice_count, choice_rests, road_moves
from farlanes.tracks import Tracks


def names_each(pairs, many):
    """Tell whether the first items of the pairs are all numbers below this one, each once."""
    return sorted([number for number, shift in pairs]) == list(range(many))


def roads_hold(one, other, moves, pairs):
    """Tell whether the pairs map the roads of one onto those of other as the moves ask."""
    if len(pairs) != len(one.roads) or not names_each(pairs, len(other.roads)):
        return False
    for road, (number, shift) in enumerate(pairs):
        source, sink = one.way(road)
        if other.way(number) != (source, sink):
            return False
        if road_moves(one, other, road, number, shift) != (moves[source], moves[sink]):
            return False
    return True


def cycles_hold(one, other, pairs):
    """Tell whether the pairs map the cycles of one onto those of other."""
    if len(pairs) != len(one.cycles) or not names_each(pairs, len(other.cycles)):
        return False
    for cycle, (number, shift) in zip(one.cycles, pairs):
        if len(cycle) != len(other.cycles[number]) or not 0 <= shift < len(cycle):
            return False
    return True


def fixed_differ(one, other):
    """Tell whether both have only so many fixed places, and different numbers of them."""
    return 0 not in one.paces and len(one.fixed) != len(other.fixed)


def holds(one, other, plan):
    """Tell whether a plan holds, for the tracks of two maps."""
    word, moves, roads, cycles = plan
    if word != "plan" or one.paces != other.paces:
        return False
    if len(moves) != len(one.paces) or sum(moves) != 0 or fixed_differ(one, other):
        return False
    return roads_hold(one, other, moves, roads) and cycles_hold(one, other, cycles)


def is_plan(one, other, plan):
    """Tell whether a plan holds."""
    check_same_lanes(one, other)
    return holds(Tracks(one), Tracks(other), plan)


def is_list(value):
    """Tell whether a list or a tuple stands where a list is asked for."""
    return isinstance(value, (list, tuple))


def are_roads(pairing, values):
    """Tell whether all values are numbers of roads of the first map."""
    many = len(pairing.one.roads)
    return all([isinstance(value, int) and 0 <= value < many for value in values])


def road_gap(pairing, rests, road):
    """The gap of a road for a choice, or None if its partner goes out on another lane."""
    source, sink = pairing.one.way(road)
    return pairing.gap(road, rests[source])


def gap_steps(pairing, rests, first, second):
    """The difference of the gaps of two roads as steps of the lane on which they go out, and what remains.

    None if these roads and their partners do not all go out on one lane.
    """
    sink = pairing.one.way(first)[1]
    gap, other_gap = road_gap(pairing, rests, first), road_gap(pairing, rests, second)
    if pairing.one.way(second)[1] != sink or gap is None or other_gap is None:
        return None
    return divmod(gap - other_gap, pairing.one.paces[sink])


def is_part(pairing, rests, first, second):
    """Tell whether the gaps of two roads differ by no multiple of the drift of their lane."""
    steps = gap_steps(pairing, rests, first, second)
    return steps is not None and steps[1] != 0


def is_ring(pairing, rests, ring):
    """Tell whether the pairs of roads are linked to a ring, and their steps do not sum to zero."""
    total = 0
    for at in range(0, len(ring), 2):
        steps = gap_steps(pairing, rests, ring[at], ring[at + 1])
        if steps is None or steps[1] != 0:
            return False
        following = ring[(at + 2) % len(ring)]
        if pairing.one.way(ring[at + 1])[0] != pairing.one.way(following)[0]:
            return False
        total += steps[0]
    return total != 0


def is_leaf(pairing, rests, leaf):
    """Tell whether a value is a leaf for a choice."""
    if not isinstance(leaf, tuple) or len(leaf) < 2:
        return False
    word, value = leaf[0], leaf[1]
    if word == "ring":
        even = len(leaf) == 2 and is_list(value) and len(value) % 2 == 0
        return even and are_roads(pairing, value) and is_ring(pairing, rests, value)
    if not are_roads(pairing, leaf[1:]):
        return False
    if word == "lane":
        return len(leaf) == 2 and road_gap(pairing, rests, value) is None
    return word == "part" and len(leaf) == 3 and is_part(pairing, rests, value, leaf[2])


def are_leaves(one, other, leaves):
    """Tell whether a value has a leaf for each choice, in their order."""
    if one.paces != other.paces or not is_list(leaves) or len(leaves) != choice_count(one.paces):
        return False
    pairing = Pairing(one, other)
    for number, leaf in enumerate(leaves):
        if not is_leaf(pairing, choice_rests(one.paces, number), leaf):
            return False
    return True


def cycle_counts(tracks):
    """How many cycles there are of each length."""
    counts = {}
    for cycle in tracks.cycles:
        counts[len(cycle)] = counts.get(len(cycle), 0) + 1
    return counts


def is_other_drift(one, other, lane):
    """Tell whether a value is a lane with different drifts."""
    return isinstance(lane, int) and 0 <= lane < len(one.paces) and one.paces[lane] != other.paces[lane]


def is_other_count(one, other, length):
    """Tell whether a value is a length of which there are different numbers of cycles."""
    return isinstance(length, int) and cycle_counts(one).get(length, 0) != cycle_counts(other).get(length, 0)


def is_obstruction(one, other, paper):
    """Tell whether a tuple is an obstruction."""
    check_same_lanes(one, other)
    first, second = Tracks(one), Tracks(other)
    if paper == ("fixed",):
        return first.paces == second.paces and fixed_differ(first, second)
    if len(paper) != 2:
        return False
    word, value = paper
    if word == "drift":
        return is_other_drift(first, second, value)
    if word == "cycles":
        return is_other_count(first, second, value)
    return word == "choices" and are_leaves(first, second, value)
