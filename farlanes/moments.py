"""After how many steps a lane map moves places to given ones."""

from farlanes.arithmetic import common_divisor, reciprocal
from farlanes.maps import check_place
from farlanes.tracks import Tracks

ALWAYS = ("every", 0, 1)


def pair_moment(tracks, start, goal):
    """The moment of one pair."""
    kind, number, index = tracks.spot_of(start)
    goal_kind, goal_number, goal_index = tracks.spot_of(goal)
    if kind == "fixed":
        return ALWAYS if start == goal else None
    if (kind, number) != (goal_kind, goal_number):
        return None
    if kind == "road":
        return ("once", goal_index - index)
    length = len(tracks.cycles[number])
    return ("every", (goal_index - index) % length, length)


def includes(moment, count):
    """Tell whether the count belongs to the set of a moment that is not None."""
    if moment[0] == "once":
        return moment[1] == count
    return count % moment[2] == moment[1]


def met_periods(first, period, other_first, other_period):
    """The moment of the counts in both of two sets with periods."""
    shared = common_divisor(period, other_period)
    if (other_first - first) % shared != 0:
        return None
    part = other_period // shared
    turns = (other_first - first) // shared * reciprocal(period // shared, part) % part
    return ("every", first + turns * period, period * part)


def met(one, other):
    """The moment of the counts in both sets."""
    if one is None or other is None:
        return None
    if one[0] == "once":
        return one if includes(other, one[1]) else None
    if other[0] == "once":
        return other if includes(one, other[1]) else None
    return met_periods(one[1], one[2], other[1], other[2])


def moments(lane_map, pairs):
    """The moment of all counts of steps that move each start to its goal."""
    for start, goal in pairs:
        check_place(lane_map.lanes(), start)
        check_place(lane_map.lanes(), goal)
    tracks = Tracks(lane_map)
    moment = ALWAYS
    for start, goal in pairs:
        moment = met(moment, pair_moment(tracks, start, goal))
    return moment


def first_moment(lane_map, pairs):
    """The least count of steps, not negative, that moves each start to its goal, or None."""
    moment = moments(lane_map, pairs)
    if moment is None or moment[1] < 0:
        return None
    return moment[1]
