"""Composing, inverting and conjugating lane maps."""

from farlanes.errors import OtherLanes
from farlanes.maps import LaneMap, rows_of


def check_same_lanes(one, other):
    """Raise OtherLanes if the maps have different numbers of lanes."""
    if one.lanes() != other.lanes():
        raise OtherLanes()


def composed_drifts(first, second):
    """The drifts of the first map followed by the second one."""
    return [drift + more for drift, more in zip(first.drifts(), second.drifts())]


def composed_rows(first, second):
    """The goals of the first map followed by the second one, also if they are more than a map may have."""
    # From these ends on a place is a tail place of the first map, and its image one of the second map.
    limits = [bound - drift for bound, drift in zip(second.bounds(), first.drifts())]
    ends = [max(bound, limit) for bound, limit in zip(first.bounds(), limits)]
    return rows_of(composed_drifts(first, second), ends, lambda place: second.goal(first.goal(place)))


def compose(first, second):
    """The map that maps every place as the first map and then as the second one does."""
    check_same_lanes(first, second)
    return LaneMap(composed_drifts(first, second), composed_rows(first, second))


def inverse(lane_map):
    """The map that maps the image of every place back to that place."""
    drifts = lane_map.drifts()
    # A tail begins at the bound, so its images begin at the bound plus the drift.
    ends = [bound + drift for bound, drift in zip(lane_map.bounds(), drifts)]
    rows = [[lane_map.source((lane, at)) for at in range(end)] for lane, end in enumerate(ends)]
    return LaneMap([-drift for drift in drifts], rows)


def conjugate(lane_map, by):
    """The map that does to the images under `by` what the map does to the places."""
    return compose(compose(inverse(by), lane_map), by)


def commute(one, other):
    """Tell whether both orders of the two maps map every place to the same place."""
    check_same_lanes(one, other)
    # Both orders have the same drifts, and either may be too wide for a lane map.
    return composed_rows(one, other) == composed_rows(other, one)
