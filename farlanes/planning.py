"""The bijection that a plan describes, place by place."""


def tail_starts(one, other, moves):
    """A position on each lane from which on the plan with these moves moves every place by the move."""
    return [max(0, edge, there - move, -move) for edge, there, move in zip(one.edges, other.edges, moves)]


class FixedBelow:
    """The fixed places of a map, on lanes without drift those below a start, counted in ascending order."""

    def __init__(self, tracks, starts):
        self.edges = list(tracks.edges)
        ends = [start if pace == 0 else edge for pace, edge, start in zip(tracks.paces, self.edges, starts)]
        self.rows = [[at for lane, at in tracks.fixed if lane == own] for own in range(len(ends))]
        self.sizes = [len(row) + end - edge for row, end, edge in zip(self.rows, ends, self.edges)]

    def rank(self, place):
        """How many of these places come before the given one."""
        lane, at = place
        row, edge = self.rows[lane], self.edges[lane]
        # From the bound on all places up to the start are fixed; they may be far too many to list.
        own = row.index(at) if at < edge else len(row) + at - edge
        return sum(self.sizes[:lane]) + own

    def ranked(self, rank):
        """The place before which so many of these places come."""
        lane = 0
        while rank >= self.sizes[lane]:
            rank -= self.sizes[lane]
            lane += 1
        row = self.rows[lane]
        return (lane, row[rank] if rank < len(row) else self.edges[lane] + rank - len(row))


class Conjugator:
    """The bijection of all places that a plan describes, for a plan that holds."""

    def __init__(self, one, other, plan):
        word, moves, roads, cycles = plan
        self.one = one
        self.other = other
        self.moves = list(moves)
        self.roads = list(roads)
        self.cycles = list(cycles)
        self.starts = tail_starts(one, other, moves)
        self.below = FixedBelow(one, self.starts)
        self.other_below = FixedBelow(other, [start + move for start, move in zip(self.starts, moves)])

    def image_of(self, place):
        """The image of a place."""
        kind, number, index = self.one.spot_of(place)
        if kind == "road":
            partner, shift = self.roads[number]
            return self.other.road_place(partner, index + shift)
        if kind == "cycle":
            partner, shift = self.cycles[number]
            return self.other.cycle_place(partner, index + shift)
        return self.fixed_image(place)

    def fixed_image(self, place):
        """The image of a fixed place."""
        lane, at = place
        if self.one.paces[lane] == 0 and at >= self.starts[lane]:
            return (lane, at + self.moves[lane])
        return self.other_below.ranked(self.below.rank(place))
