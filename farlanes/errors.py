"""The errors of the program, each with its class's name as `word`."""


class LaneError(ValueError):
    """What is wrong with lanes, places, maps and what is made of them."""

    def __init__(self):
        self.word = "LaneError"


class BadLanes(LaneError):
    """The number of lanes is not allowed, or goals and drifts differ in it."""

    def __init__(self):
        LaneError.__init__(self)
        self.word = "BadLanes"


class BadLane(LaneError):
    """There is no such lane, or it is the other lane again."""

    def __init__(self, lane):
        LaneError.__init__(self)
        self.lane = lane
        self.word = "BadLane"


class BadPlace(LaneError):
    """The lanes have no such place."""

    def __init__(self, place):
        LaneError.__init__(self)
        self.place = place
        self.word = "BadPlace"


class BadGoal(LaneError):
    """The image of this place is not a place."""

    def __init__(self, place):
        LaneError.__init__(self)
        self.place = place
        self.word = "BadGoal"


class NotBijective(LaneError):
    """This place is not the image of exactly one place."""

    def __init__(self, place):
        LaneError.__init__(self)
        self.place = place
        self.word = "NotBijective"


class TooWide(LaneError):
    """A lane map would have a greater width than allowed."""

    def __init__(self, most):
        LaneError.__init__(self)
        self.most = most
        self.word = "TooWide"


class OtherLanes(LaneError):
    """Two things have different numbers of lanes."""

    def __init__(self):
        LaneError.__init__(self)
        self.word = "OtherLanes"


class BadSpot(LaneError):
    """The map has no such spot."""

    def __init__(self, spot):
        LaneError.__init__(self)
        self.spot = spot
        self.word = "BadSpot"


class TooMany(LaneError):
    """There are more choices than may be tried."""

    def __init__(self, most):
        LaneError.__init__(self)
        self.most = most
        self.word = "TooMany"


class BadPlan(LaneError):
    """The plan does not hold."""

    def __init__(self):
        LaneError.__init__(self)
        self.word = "BadPlan"


class BadDegree(LaneError):
    """Roots of this degree are not looked for."""

    def __init__(self, degree):
        LaneError.__init__(self)
        self.degree = degree
        self.word = "BadDegree"


class BadMove(LaneError):
    """The tuple at this index is no move of the lanes."""

    def __init__(self, at):
        LaneError.__init__(self)
        self.at = at
        self.word = "BadMove"


class BadText(LaneError):
    """The text is not that of a lane map, from this part on."""

    def __init__(self, at):
        LaneError.__init__(self)
        self.at = at
        self.word = "BadText"


class BadSyntax(LaneError):
    """The text is not that of an expression, from this index on."""

    def __init__(self, at):
        LaneError.__init__(self)
        self.at = at
        self.word = "BadSyntax"


class BadProgram(LaneError):
    """The program cannot go on at this instruction."""

    def __init__(self, at):
        LaneError.__init__(self)
        self.at = at
        self.word = "BadProgram"


class BadName(LaneError):
    """The text is not allowed as a name."""

    def __init__(self):
        LaneError.__init__(self)
        self.word = "BadName"


class Taken(LaneError):
    """Something has this name already."""

    def __init__(self, name):
        LaneError.__init__(self)
        self.name = name
        self.word = "Taken"


class Held(LaneError):
    """Another bead stands on the place."""

    def __init__(self, by):
        LaneError.__init__(self)
        self.by = by
        self.word = "Held"


class Full(LaneError):
    """The store takes no more things of this sort."""

    def __init__(self):
        LaneError.__init__(self)
        self.word = "Full"


class BadCount(LaneError):
    """The count is out of its range."""

    def __init__(self, count):
        LaneError.__init__(self)
        self.count = count
        self.word = "BadCount"


class BadDeed(LaneError):
    """The tuple is no step of a store."""

    def __init__(self):
        LaneError.__init__(self)
        self.word = "BadDeed"


class Stopped(LaneError):
    """The step at this index raised an error, so none was done."""

    def __init__(self, at):
        LaneError.__init__(self)
        self.at = at
        self.word = "Stopped"


class BadPage(LaneError):
    """The text is not that of a store, from this row on."""

    def __init__(self, row):
        LaneError.__init__(self)
        self.row = row
        self.word = "BadPage"


class Missing(LookupError):
    """Nothing of the wanted sort has this name."""

    def __init__(self, name):
        self.name = name
        self.word = "Missing"


class NoName(Missing):
    """Nothing at all has this name."""

    def __init__(self, name):
        Missing.__init__(self, name)
        self.word = "NoName"


class NoBead(Missing):
    """No bead has this name."""

    def __init__(self, name):
        Missing.__init__(self, name)
        self.word = "NoBead"


class NoMap(Missing):
    """No map has this name."""

    def __init__(self, name):
        Missing.__init__(self, name)
        self.word = "NoMap"


class NothingLeft(IndexError):
    """No step is left to be undone or redone."""

    def __init__(self):
        self.word = "NothingLeft"
