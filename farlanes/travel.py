"""Following places through any number of steps, and powers of lane maps."""

from farlanes.algebra import inverse
from farlanes.maps import LaneMap, check_place, check_width, trimmed
from farlanes.tracks import Tracks


def advance(lane_map, place, *, count=1):
    """The place after so many steps, of the inverse if the count is negative."""
    check_place(lane_map.lanes(), place)
    return Tracks(lane_map).place_after(place, count)


def power(lane_map, exponent):
    """The map that does so many steps, of the inverse if the exponent is negative."""
    if exponent < 0:
        return power(inverse(lane_map), -exponent)
    drifts = [drift * exponent for drift in lane_map.drifts()]
    # A bound is at least minus the drift, so what is refused here is too wide, and the rest can be listed.
    check_width([max(0, -drift) for drift in drifts])
    tracks = Tracks(lane_map)
    rows = []
    for lane, bound in enumerate(lane_map.bounds()):
        # From here on the steps meet no inner place.
        end = bound + max(0, -drifts[lane])
        row = [tracks.place_after((lane, at), exponent) for at in range(end)]
        rows.append(trimmed(lane, drifts[lane], row))
    return LaneMap(drifts, rows)
