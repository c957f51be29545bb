"""The orbits of a lane map, found once to answer many questions."""


def entries(drifts, bounds):
    """The entries of all roads, ascending."""
    return [(lane, at) for lane, bound in enumerate(bounds) for at in range(bound, bound - drifts[lane])]


def road_from(lane_map, bounds, entry):
    """The places of a road from its entry to its exit."""
    road = [entry]
    lane, at = lane_map.goal(entry)
    # No inner place is mapped to a tail place of a lane with a negative drift, so the next tail place is the exit.
    while at < bounds[lane]:
        road.append((lane, at))
        lane, at = lane_map.goal((lane, at))
    road.append((lane, at))
    return road


def orbit_from(lane_map, place):
    """The places of a finite orbit from this one on."""
    orbit = [place]
    there = lane_map.goal(place)
    while there != place:
        orbit.append(there)
        there = lane_map.goal(there)
    return orbit


def inner_places(bounds):
    """The inner places, ascending."""
    return [(lane, at) for lane, bound in enumerate(bounds) for at in range(bound)]


def finite_orbits(lane_map, bounds, roads):
    """The finite orbits of inner places, each from its least place on, ascending."""
    seen = {place: True for road in roads for place in road}
    found = []
    for place in inner_places(bounds):
        if place not in seen:
            orbit = orbit_from(lane_map, place)
            for each in orbit:
                seen[each] = True
            found.append(orbit)
    return found


def listed_spots(roads, cycles, alone):
    """The spots of all places that the lists name."""
    spots = {}
    for number, road in enumerate(roads):
        for index, place in enumerate(road):
            spots[place] = ("road", number, index)
    for number, cycle in enumerate(cycles):
        for index, place in enumerate(cycle):
            spots[place] = ("cycle", number, index)
    for lane, at in alone:
        spots[(lane, at)] = ("fixed", lane, at)
    return spots


class Tracks:
    """The roads, cycles and fixed inner places of a lane map, with its drifts (paces) and bounds (edges)."""

    def __init__(self, lane_map):
        self.paces = lane_map.drifts()
        self.edges = lane_map.bounds()
        self.roads = [road_from(lane_map, self.edges, entry) for entry in entries(self.paces, self.edges)]
        orbits = finite_orbits(lane_map, self.edges, self.roads)
        self.cycles = [orbit for orbit in orbits if len(orbit) > 1]
        self.fixed = [orbit[0] for orbit in orbits if len(orbit) == 1]
        self.spots = listed_spots(self.roads, self.cycles, self.fixed)

    def spot_of(self, place):
        """The spot of a place."""
        if place in self.spots:
            return self.spots[place]
        lane, at = place
        pace, edge = self.paces[lane], self.edges[lane]
        if pace == 0:
            return ("fixed", lane, at)
        # A tail place is whole steps away from one entry or exit, which the list of spots has.
        near = edge + (at - edge) % abs(pace)
        kind, number, index = self.spots[(lane, near)]
        return (kind, number, index + (at - near) // pace)

    def way(self, number):
        """The lanes on which a road comes in and goes out."""
        road = self.roads[number]
        return (road[0][0], road[-1][0])

    def outset(self, number):
        """Where a road would stand at index 0 if it came all the way on the lane on which it goes out."""
        road = self.roads[number]
        lane, at = road[-1]
        return at - self.paces[lane] * (len(road) - 1)

    def road_place(self, number, index):
        """The place of a road at any index."""
        road = self.roads[number]
        near = min(max(index, 0), len(road) - 1)
        lane, at = road[near]
        return (lane, at + self.paces[lane] * (index - near))

    def cycle_place(self, number, index):
        """The place of a cycle at any index, going round as often as needed."""
        cycle = self.cycles[number]
        return cycle[index % len(cycle)]

    def place_after(self, place, count):
        """The place after so many steps, of the inverse if the count is negative."""
        kind, number, index = self.spot_of(place)
        if kind == "road":
            return self.road_place(number, index + count)
        if kind == "cycle":
            return self.cycle_place(number, index + count)
        return place
