"""Following places through any number of steps, and powers of lane maps."""

from farlanes.algebra import inverse
from farlanes.maps import LaneMap, check_place, check_width, rows_of
from farlanes.tracks import Tracks


def advance(lane_map, place, *, count=1):
    """The place after so many steps, of the inverse if the count is negative."""
    check_place(lane_map.lanes(), place)
    return Tracks(lane_map).place_after(place, count)


def power(lane_map, exponent):
    """The map that does so many steps, of the inverse if the exponent is negative."""
    if exponent < 0:
        return power(inverse(lane_map), -exponent)
    drifts = [drift * exponent for drift in lane_map.drifts()]
    # A bound is at least minus the drift, so what is refused here is too wide, and the rest can be listed.
    check_width([max(0, -drift) for drift in drifts])
    # From these ends on the steps meet no inner place.
    ends = [bound + max(0, -drift) for bound, drift in zip(lane_map.bounds(), drifts)]
    tracks = Tracks(lane_map)
    return LaneMap(drifts, rows_of(drifts, ends, lambda place: tracks.place_after(place, exponent)))
