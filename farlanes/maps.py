"""Lane maps, and the simplest ones: the identity, swaps and leads."""

from farlanes.errors import BadGoal, BadLane, BadLanes, BadPlace, NotBijective, TooWide
from farlanes.numerals import place_text

MOST_LANES = 6
MOST_GOALS = 2000


def check_lanes(lanes):
    """Raise BadLanes if there cannot be so many lanes."""
    if not 1 <= lanes <= MOST_LANES:
        raise BadLanes()


def check_width(bounds):
    """Raise TooWide if a map with these bounds is not allowed."""
    if sum(bounds) > MOST_GOALS:
        raise TooWide(MOST_GOALS)


def is_place(lanes, place):
    """Tell whether the pair of integers is a place of so many lanes."""
    lane, at = place
    return 0 <= lane < lanes and at >= 0


def check_place(lanes, place):
    """Raise BadPlace if the pair of integers is no place of so many lanes."""
    if not is_place(lanes, place):
        raise BadPlace(place)


def copied_rows(lanes, goals):
    """The goals as a new list for each lane; raise BadLanes if they are for other lanes."""
    if len(goals) == 0:
        return [[] for lane in range(lanes)]
    if len(goals) != lanes:
        raise BadLanes()
    return [list(row) for row in goals]


def check_images(drifts, rows):
    """Raise BadGoal for the least place whose image is not a place."""
    for lane, row in enumerate(rows):
        for at, image in enumerate(row):
            if not is_place(len(rows), image):
                raise BadGoal((lane, at))
        # The images by the drift ascend, so the first one tells for all of them.
        if len(row) + drifts[lane] < 0:
            raise BadGoal((lane, len(row)))


def check_bijective(drifts, rows):
    """Raise NotBijective for the least place that is not the image of exactly one place."""
    reached = [{} for row in rows]
    for row in rows:
        for lane, at in row:
            counts = reached[lane]
            counts[at] = counts.get(at, 0) + 1
    for lane, row in enumerate(rows):
        wrong = first_wrong(reached[lane], len(row) + drifts[lane])
        if wrong is not None:
            raise NotBijective((lane, wrong))


def first_wrong(counts, start):
    """The least position of a lane that is not reached exactly once, or None.

    The drift reaches each position from start on once; counts tells how often goals reach one.
    """
    at = 0
    # Drifts may be enormous, but this ends behind the goals: there the counts are missing.
    while at < start and counts.get(at, 0) == 1:
        at += 1
    if at < start:
        return at
    return min([twice for twice in counts if twice >= start], default=None)


def trimmed(lane, drift, row):
    """The images of a lane's first places, without those at the end that the drift gives."""
    bound = len(row)
    while bound > 0 and row[bound - 1] == (lane, bound - 1 + drift):
        bound -= 1
    return row[:bound]


def rows_of(drifts, ends, image):
    """The goals of a map that moves the places from the ends on by the drifts and the others by a function."""
    return [trimmed(lane, drifts[lane], [image((lane, at)) for at in range(end)]) for lane, end in enumerate(ends)]


def part_text(drift, row):
    """The text of one lane: its drift and its goals."""
    return " ".join([str(drift)] + [place_text(place) for place in row])


class LaneMap:
    """A bijection of all places that moves the far places of each lane by a constant."""

    def __init__(self, drifts, goals=()):
        check_lanes(len(drifts))
        rows = copied_rows(len(drifts), goals)
        check_width([len(row) for row in rows])
        check_images(drifts, rows)
        check_bijective(drifts, rows)
        self.shifts = list(drifts)
        self.rows = [trimmed(lane, drifts[lane], row) for lane, row in enumerate(rows)]
        self.images = {(lane, at): image for lane, row in enumerate(self.rows) for at, image in enumerate(row)}
        self.origins = {self.images[place]: place for place in self.images}

    def lanes(self):
        """The number of lanes."""
        return len(self.shifts)

    def drifts(self):
        """The drift of each lane."""
        return list(self.shifts)

    def bounds(self):
        """The bound of each lane."""
        return [len(row) for row in self.rows]

    def goals(self):
        """The images of the inner places of each lane."""
        return [list(row) for row in self.rows]

    def goal(self, place):
        """The image of a place."""
        check_place(len(self.shifts), place)
        if place in self.images:
            return self.images[place]
        lane, at = place
        return (lane, at + self.shifts[lane])

    def source(self, place):
        """The place whose image this place is."""
        check_place(len(self.shifts), place)
        if place in self.origins:
            return self.origins[place]
        lane, at = place
        return (lane, at - self.shifts[lane])

    def __eq__(self, other):
        return isinstance(other, LaneMap) and self.shifts == other.shifts and self.rows == other.rows

    def __len__(self):
        return len(self.images)

    def __repr__(self):
        return f"LaneMap({len(self.shifts)} lanes, {len(self.images)} goals)"

    def __str__(self):
        return " | ".join([part_text(drift, row) for drift, row in zip(self.shifts, self.rows)])


def identity(lanes):
    """The map that maps every place to itself."""
    check_lanes(lanes)
    return LaneMap([0] * lanes)


def swap_bounds(lanes, one, other):
    """The bounds of the map that exchanges two places."""
    bounds = [0] * lanes
    if one != other:
        for lane, at in (one, other):
            bounds[lane] = max(bounds[lane], at + 1)
    return bounds


def swap(lanes, one, other):
    """The map that exchanges two places."""
    check_lanes(lanes)
    check_place(lanes, one)
    check_place(lanes, other)
    if one == other:
        return identity(lanes)
    bounds = swap_bounds(lanes, one, other)
    # Far places have too many places below them to be listed first.
    check_width(bounds)
    rows = [[(lane, at) for at in range(bound)] for lane, bound in enumerate(bounds)]
    rows[one[0]][one[1]] = other
    rows[other[0]][other[1]] = one
    return LaneMap([0] * lanes, rows)


def lead(lanes, source, sink):
    """The map that moves one place from the lane source to the lane sink."""
    check_lanes(lanes)
    if not 0 <= source < lanes:
        raise BadLane(source)
    if not 0 <= sink < lanes or sink == source:
        raise BadLane(sink)
    drifts = [0] * lanes
    drifts[source] = -1
    drifts[sink] = 1
    rows = [[] for lane in range(lanes)]
    rows[source].append((sink, 0))
    return LaneMap(drifts, rows)
