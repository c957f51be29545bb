"""The order of a lane map, and the exponents that make one map of another."""

from farlanes.algebra import check_same_lanes
from farlanes.arithmetic import common_multiple
from farlanes.errors import TooWide
from farlanes.moments import moments
from farlanes.tracks import Tracks, inner_places
from farlanes.travel import power


def has_drifts(lane_map):
    """Tell whether the map moves far places."""
    return any([drift != 0 for drift in lane_map.drifts()])


def order(lane_map):
    """The least exponent, 1 or greater, whose power is the identity, or None."""
    if has_drifts(lane_map):
        return None
    least = 1
    for cycle in Tracks(lane_map).cycles:
        least = common_multiple(least, len(cycle))
    return least


def is_power(base, count, lane_map):
    """Tell whether so many steps of base make the map."""
    try:
        return power(base, count) == lane_map
    except TooWide:
        # A lane map is never so wide.
        return False


def drifting_exponent(base, lane_map):
    """The moment of the exponents of a base with drifts: a drift leaves one count at most."""
    for drift, wanted in zip(base.drifts(), lane_map.drifts()):
        if drift != 0:
            count = wanted // drift
            return ("once", count) if is_power(base, count, lane_map) else None
    return None


def exponent(base, lane_map):
    """The moment of all counts of steps of base that map every place as the map does."""
    check_same_lanes(base, lane_map)
    if has_drifts(base):
        return drifting_exponent(base, lane_map)
    if has_drifts(lane_map):
        return None
    # Both maps leave all other places where they are.
    bounds = [max(bound, other) for bound, other in zip(base.bounds(), lane_map.bounds())]
    return moments(base, [(place, lane_map.goal(place)) for place in inner_places(bounds)])
