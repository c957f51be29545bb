"""Lane maps as leads and swaps that are done one after the other."""

from farlanes.algebra import compose, inverse
from farlanes.errors import BadMove
from farlanes.maps import LaneMap, check_lanes, check_width, is_place, swap_bounds
from farlanes.tracks import Tracks


def is_lane(lanes, value):
    """Tell whether a value is the number of a lane."""
    return isinstance(value, int) and 0 <= value < lanes


def is_pair(value):
    """Tell whether a value is a pair of integers."""
    return isinstance(value, tuple) and len(value) == 2 and all([isinstance(part, int) for part in value])


def is_move(lanes, move):
    """Tell whether a tuple is a move of so many lanes."""
    if len(move) != 3:
        return False
    word, one, other = move
    if word == "lead":
        return is_lane(lanes, one) and is_lane(lanes, other) and one != other
    return word == "swap" and all([is_pair(place) and is_place(lanes, place) for place in (one, other)])


class Chain:
    """A composition of moves that grows at its end without being listed anew.

    A home is a place counted along its lane's drift so far: a lane that only drifts maps each place to the home with
    the same numbers, and a lead changes the home of one place only.
    """

    def __init__(self, lanes):
        self.paces = [0] * lanes
        self.edges = [0] * lanes
        self.homes = {}
        self.settlers = {}

    def home(self, place):
        """The home that a place is now."""
        lane, at = place
        return (lane, at - self.paces[lane])

    def settler(self, place):
        """The place that is mapped to this one."""
        home = self.home(place)
        return self.settlers.get(home, home)

    def is_plain(self, place):
        """Tell whether a place is moved by the drift alone."""
        return self.homes.get(place, place) == place

    def settle(self, place, image):
        """Map a place to an image, and find the bound of its lane."""
        home = self.home(image)
        self.homes[place] = home
        self.settlers[home] = place
        lane, at = place
        edge = self.edges[lane] if self.is_plain(place) else max(self.edges[lane], at + 1)
        while edge > 0 and self.is_plain((lane, edge - 1)):
            edge -= 1
        self.edges[lane] = edge

    def swap_ends(self, one, other):
        """Let a swap follow."""
        check_width(swap_bounds(len(self.paces), one, other))
        first, second = self.settler(one), self.settler(other)
        self.settle(first, other)
        self.settle(second, one)

    def lead_end(self, source, sink):
        """Let a lead follow."""
        leader = self.settler((source, 0))
        self.paces[source] -= 1
        self.paces[sink] += 1
        self.settle(leader, (sink, 0))

    def follow(self, move):
        """Let a move follow; raise TooWide if it is too wide, or what comes of it."""
        word, one, other = move
        if word == "lead":
            self.lead_end(one, other)
        else:
            self.swap_ends(one, other)
        check_width(self.edges)

    def image_of(self, place):
        """The image of a place."""
        lane, at = self.homes.get(place, place)
        return (lane, at + self.paces[lane])

    def as_map(self):
        """The composition as a lane map."""
        rows = [[self.image_of((lane, at)) for at in range(edge)] for lane, edge in enumerate(self.edges)]
        return LaneMap(self.paces, rows)


def from_moves(lanes, moves):
    """The maps of the moves, composed from the first one to the last one."""
    check_lanes(lanes)
    for at, move in enumerate(moves):
        if not is_move(lanes, move):
            raise BadMove(at)
    chain = Chain(lanes)
    for move in moves:
        chain.follow(move)
    return chain.as_map()


def leads_for(drifts):
    """Leads that make these drifts together, none of them in vain."""
    sources = [lane for lane, drift in enumerate(drifts) for turn in range(-drift)]
    sinks = [lane for lane, drift in enumerate(drifts) for turn in range(drift)]
    return [("lead", source, sink) for source, sink in zip(sources, sinks)]


def swaps_for(cycles):
    """Swaps that turn the cycles."""
    return [("swap", cycle[0], place) for cycle in cycles for place in cycle[1:]]


def moves_of(lane_map):
    """Moves that make the lane map, the leads first."""
    leads = leads_for(lane_map.drifts())
    # What remains is no wider than the map, and with swaps of its places no composition on the way is wider either.
    remaining = compose(inverse(from_moves(lane_map.lanes(), leads)), lane_map)
    return leads + swaps_for(Tracks(remaining).cycles)
