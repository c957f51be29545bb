"""Cycles, roads and fixed places of a lane map, and the spots of its places."""

from farlanes.errors import BadSpot
from farlanes.maps import check_place, is_place
from farlanes.tracks import Tracks


def cycles(lane_map):
    """The cycles, each from its least place on, in ascending order of these."""
    return Tracks(lane_map).cycles


def roads(lane_map, *, lane=None):
    """The roads, each from its entry to its exit: all, or those that come in on one lane."""
    return [road for road in Tracks(lane_map).roads if lane is None or road[0][0] == lane]


def fixed(lane_map):
    """The fixed inner places, ascending."""
    return Tracks(lane_map).fixed


def spot(lane_map, place):
    """The spot of a place."""
    check_place(lane_map.lanes(), place)
    return Tracks(lane_map).spot_of(place)


def has_spot(tracks, kind, number, index):
    """Tell whether a place has this spot."""
    if kind == "road":
        return 0 <= number < len(tracks.roads)
    if kind == "cycle":
        return 0 <= number < len(tracks.cycles) and 0 <= index < len(tracks.cycles[number])
    place = (number, index)
    return is_place(len(tracks.paces), place) and tracks.spot_of(place) == (kind, number, index)


def place_at(lane_map, spot):
    """The place at a spot."""
    kind, number, index = spot
    tracks = Tracks(lane_map)
    if not has_spot(tracks, kind, number, index):
        raise BadSpot(spot)
    if kind == "road":
        return tracks.road_place(number, index)
    if kind == "cycle":
        return tracks.cycle_place(number, index)
    return (number, index)
