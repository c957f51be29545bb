"""Choices for two lane maps with the same drifts, and the partners that they give to roads."""


def incoming(paces):
    """The lanes with a negative drift, ascending."""
    return [lane for lane, pace in enumerate(paces) if pace < 0]


def choice_count(paces):
    """The number of choices."""
    many = 1
    for lane in incoming(paces):
        many *= -paces[lane]
    return many


def choice_rests(paces, number):
    """The choice with this number in ascending order, as a dict from the incoming lanes to their rests."""
    rests = {}
    for lane in reversed(incoming(paces)):
        number, rests[lane] = divmod(number, -paces[lane])
    return rests


def road_moves(one, other, road, number, shift):
    """The moves that the lanes of a road have if it is mapped to that road of other with this shift."""
    source, sink = one.way(road)
    came = other.roads[number][0][1] - one.roads[road][0][1] + one.paces[source] * shift
    went = other.outset(number) - one.outset(road) + one.paces[sink] * shift
    return (came, went)


class Pairing:
    """The tracks of two lane maps with the same drifts, and the partners of the roads of the first one.

    A rest is what a choice has for a lane: the move of the lane is the rest plus a multiple of its drift.
    """

    def __init__(self, one, other):
        self.one = one
        self.other = other
        self.entered = {}
        for number, road in enumerate(other.roads):
            lane, at = road[0]
            self.entered[(lane, at % abs(other.paces[lane]))] = number

    def partner(self, road, rest):
        """The partner of a road and its base shift, for the rest of the lane on which the road comes in."""
        lane, at = self.one.roads[road][0]
        pace = self.one.paces[lane]
        number = self.entered[(lane, (at + rest) % abs(pace))]
        there = self.other.roads[number][0][1]
        return (number, (at + rest - there) // pace)

    def gap(self, road, rest):
        """The gap of a road, or None if its partner goes out on another lane."""
        number, shift = self.partner(road, rest)
        if self.one.way(road) != self.other.way(number):
            return None
        came, went = road_moves(self.one, self.other, road, number, shift)
        return went
