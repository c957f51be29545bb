"""Roots of lane maps, and the obstructions that show that there are none."""

from farlanes.arithmetic import common_divisor
from farlanes.errors import BadDegree
from farlanes.judging import cycle_counts
from farlanes.maps import LaneMap, rows_of
from farlanes.pairing import Pairing
from farlanes.tracks import Tracks

MOST_DEGREE = 12


def check_degree(degree):
    """Raise BadDegree if roots of this degree are not looked for."""
    if not 2 <= degree <= MOST_DEGREE:
        raise BadDegree(degree)


def divides_all(degree, paces):
    """Tell whether the degree divides all drifts."""
    return all([pace % degree == 0 for pace in paces])


def fits(pairing, degree, road):
    """Tell whether the candidate for a road fits; the degree divides all drifts."""
    paces = pairing.one.paces
    source, sink = pairing.one.way(road)
    # A candidate is the partner of its road in the same map, for the drift of the root as the rest.
    return pairing.gap(road, paces[source] // degree) == paces[sink] // degree


def group_sizes(length, degree):
    """How many cycles of this length the power of one cycle can have."""
    return [size for size in range(1, degree + 1) if common_divisor(size * length, degree) == size]


def summands(total, sizes):
    """Some of the sizes, each as often as wanted, that sum to the total; None if there are none."""
    last = {0: 0}
    for reached in range(1, total + 1):
        for size in sizes:
            if reached - size in last:
                last[reached] = size
    if total not in last:
        return None
    found = []
    while total > 0:
        found.append(last[total])
        total -= last[total]
    return found


def groups_of(tracks, length, degree):
    """How many of the cycles of a length each cycle of a root takes; None if there is no root."""
    return summands(cycle_counts(tracks).get(length, 0), group_sizes(length, degree))


def root_obstruction(tracks, degree):
    """The first root obstruction, or None."""
    for lane, pace in enumerate(tracks.paces):
        if pace % degree != 0:
            return ("drift", lane)
    pairing = Pairing(tracks, tracks)
    for road in range(len(tracks.roads)):
        if not fits(pairing, degree, road):
            return ("road", road)
    for length in sorted(cycle_counts(tracks)):
        if groups_of(tracks, length, degree) is None:
            return ("cycles", length)
    return None


def woven(cycles, degree):
    """The one cycle whose power with the degree consists of these cycles of the same length."""
    ring = {}
    many = len(cycles) * len(cycles[0])
    for number, cycle in enumerate(cycles):
        for index, place in enumerate(cycle):
            ring[(number + index * degree) % many] = place
    return [ring[at] for at in range(many)]


def root_rings(tracks, degree):
    """The cycles of a root."""
    rings = []
    for length in sorted(cycle_counts(tracks)):
        cycles = [cycle for cycle in tracks.cycles if len(cycle) == length]
        for size in groups_of(tracks, length, degree):
            rings.append(woven(cycles[:size], degree))
            cycles = cycles[size:]
    return rings


class RootImages:
    """Where a root maps each place, for a map without a root obstruction."""

    def __init__(self, tracks, degree):
        self.tracks = tracks
        self.paces = [pace // degree for pace in tracks.paces]
        pairing = Pairing(tracks, tracks)
        self.pairs = [pairing.partner(number, self.paces[road[0][0]]) for number, road in enumerate(tracks.roads)]
        self.turns = {}
        for ring in root_rings(tracks, degree):
            for place, following in zip(ring, ring[1:] + ring[:1]):
                self.turns[place] = following

    def image_of(self, place):
        """The image of a place."""
        kind, number, index = self.tracks.spot_of(place)
        if kind == "road":
            partner, shift = self.pairs[number]
            return self.tracks.road_place(partner, index + shift)
        return self.turns.get(place, place)

    def as_map(self):
        """The root as a lane map."""
        # No bound of a root is greater: the power takes the last inner place's image for that of a place further out.
        return LaneMap(self.paces, rows_of(self.paces, self.tracks.edges, lambda place: self.image_of(place)))


def root(lane_map, degree):
    """A pair of the word root and a root, or the first root obstruction."""
    check_degree(degree)
    tracks = Tracks(lane_map)
    obstruction = root_obstruction(tracks, degree)
    if obstruction is not None:
        return obstruction
    return ("root", RootImages(tracks, degree).as_map())


def is_no_root(lane_map, degree, paper):
    """Tell whether a pair of a text and an integer is a root obstruction."""
    check_degree(degree)
    tracks = Tracks(lane_map)
    word, number = paper
    if word == "drift":
        return 0 <= number < len(tracks.paces) and tracks.paces[number] % degree != 0
    if word == "road":
        known = 0 <= number < len(tracks.roads) and divides_all(degree, tracks.paces)
        return known and not fits(Pairing(tracks, tracks), degree, number)
    return word == "cycles" and groups_of(tracks, number, degree) is None
