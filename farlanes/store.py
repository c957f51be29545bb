"""A store of named beads and maps whose steps can be undone and redone."""

from farlanes.errors import (
    BadCount, BadDeed, BadName, Full, Held, LaneError, Missing, NoBead, NoMap, NoName, NothingLeft, OtherLanes, Stopped,
    Taken,
)
from farlanes.maps import check_lanes, check_place
from farlanes.moments import first_moment
from farlanes.names import is_name
from farlanes.tracks import Tracks

MOST_BEADS = 40
MOST_MAPS = 12
MOST_COUNT = 10 ** 18

# The steps: the first item, and the number of items.
DEEDS = (("put", 3), ("take", 2), ("rename", 3), ("define", 3), ("drop", 2), ("move", 3))


def check_deed(step):
    """Raise BadDeed if the tuple is no step."""
    for word, items in DEEDS:
        if len(step) == items and step[0] == word:
            return
    raise BadDeed()


class Shelf:
    """What a store contains at one time, and the moves that the step before consisted of."""

    def __init__(self, many):
        self.many = many
        self.standing = {}
        self.known = {}
        self.moved = []

    def draft(self):
        """A copy for the next step, which has made no moves yet."""
        made = Shelf(self.many)
        made.standing = dict(self.standing)
        made.known = dict(self.known)
        return made

    def content(self):
        """All that makes two stores equal."""
        return [self.many, self.standing, self.known]

    def check_bead(self, bead):
        """Raise NoBead if there is no bead of this name."""
        if bead not in self.standing:
            raise NoBead(bead)

    def check_map(self, name):
        """Raise NoMap if there is no map of this name."""
        if name not in self.known:
            raise NoMap(name)

    def bead_on(self, place):
        """The bead that stands on a place, or None."""
        check_place(self.many, place)
        for bead in self.standing:
            if self.standing[bead] == place:
                return bead
        return None

    def check_new(self, name):
        """Raise BadName or Taken if nothing can get this name."""
        if not is_name(name):
            raise BadName()
        if name in self.standing or name in self.known:
            raise Taken(name)

    def put(self, bead, place):
        """Add a bead."""
        self.check_new(bead)
        holder = self.bead_on(place)
        if holder is not None:
            raise Held(holder)
        if len(self.standing) >= MOST_BEADS:
            raise Full()
        self.standing[bead] = place

    def take(self, bead):
        """Remove a bead."""
        self.check_bead(bead)
        del self.standing[bead]

    def rename(self, name, new):
        """Give a bead or a map a new name."""
        if name not in self.standing and name not in self.known:
            raise NoName(name)
        self.check_new(new)
        things = self.standing if name in self.standing else self.known
        things[new] = things.pop(name)

    def define(self, name, lane_map):
        """Add a map."""
        self.check_new(name)
        if lane_map.lanes() != self.many:
            raise OtherLanes()
        if len(self.known) >= MOST_MAPS:
            raise Full()
        self.known[name] = lane_map

    def drop(self, name):
        """Remove a map."""
        self.check_map(name)
        del self.known[name]

    def move(self, name, count):
        """Move each bead so many steps of a map."""
        self.check_map(name)
        if abs(count) > MOST_COUNT:
            raise BadCount(count)
        lane_map = self.known[name]
        tracks = Tracks(lane_map)
        for bead in list(self.standing):
            self.standing[bead] = tracks.place_after(self.standing[bead], count)
        self.moved.append((lane_map, count))

    def do(self, step):
        """Do one step."""
        check_deed(step)
        word, name = step[0], step[1]
        if word == "take":
            self.take(name)
        elif word == "drop":
            self.drop(name)
        elif word == "put":
            self.put(name, step[2])
        elif word == "rename":
            self.rename(name, step[2])
        elif word == "define":
            self.define(name, step[2])
        else:
            self.move(name, step[2])


class Store:
    """Named beads on places and named maps, with all steps that can be undone and redone."""

    def __init__(self, lanes):
        check_lanes(lanes)
        # What the store contained at first and behind each step; the last ones may have been undone.
        self.shelves = [Shelf(lanes)]
        self.done = 0

    def shelf(self):
        """What the store contains now."""
        return self.shelves[self.done]

    def keep(self, shelf):
        """Let a step lead to this shelf; what was undone is gone."""
        del self.shelves[self.done + 1:]
        self.shelves.append(shelf)
        self.done += 1

    def do(self, step):
        """Do one step."""
        draft = self.shelf().draft()
        draft.do(step)
        self.keep(draft)

    def all_of(self, steps):
        """Do several steps as one, or none of them."""
        draft = self.shelf().draft()
        for at, step in enumerate(steps):
            try:
                draft.do(step)
            except (LaneError, Missing) as error:
                raise Stopped(at) from error
        self.keep(draft)

    def put(self, bead, place):
        """Add a bead."""
        self.do(("put", bead, place))

    def define(self, name, lane_map):
        """Add a map."""
        self.do(("define", name, lane_map))

    def move(self, name, *, count=1):
        """Move each bead so many steps of a map."""
        self.do(("move", name, count))

    def undo(self):
        """Take the last step back."""
        if self.done == 0:
            raise NothingLeft()
        self.done -= 1

    def redo(self):
        """Do again what was undone last."""
        if self.done + 1 == len(self.shelves):
            raise NothingLeft()
        self.done += 1

    def steps(self):
        """How many steps can be undone, and how many can be redone."""
        return (self.done, len(self.shelves) - 1 - self.done)

    def twin(self):
        """An independent copy."""
        made = Store(self.lanes())
        # A shelf does not change any more once it is kept, so both stores may have it.
        made.shelves = list(self.shelves)
        made.done = self.done
        return made

    def lanes(self):
        """The number of lanes."""
        return self.shelf().many

    def beads(self):
        """The beads with their places, ascending."""
        standing = self.shelf().standing
        return [(bead, standing[bead]) for bead in sorted(standing)]

    def maps(self):
        """The names of the maps, ascending."""
        return sorted(self.shelf().known)

    def where(self, bead):
        """The place of a bead."""
        shelf = self.shelf()
        shelf.check_bead(bead)
        return shelf.standing[bead]

    def bead_at(self, place):
        """The bead on a place, or None."""
        return self.shelf().bead_on(place)

    def lane_map(self, name):
        """The map of a name."""
        shelf = self.shelf()
        shelf.check_map(name)
        return shelf.known[name]

    def history(self):
        """All moves that stand, each as a map and a count, the first one first."""
        return [move for shelf in self.shelves[:self.done + 1] for move in shelf.moved]

    def was(self, bead, steps):
        """Where a bead stood before the last so many steps, or None if there was none of this name."""
        if not 0 <= steps <= self.done:
            raise BadCount(steps)
        return self.shelves[self.done - steps].standing.get(bead)

    def first_time(self, name, goals):
        """After how many steps of a map, at least, the beads would stand on their goals, or None."""
        lane_map = self.lane_map(name)
        pairs = []
        for bead in sorted(goals):
            start = self.where(bead)
            check_place(self.lanes(), goals[bead])
            pairs.append((start, goals[bead]))
        return first_moment(lane_map, pairs)

    def __eq__(self, other):
        return isinstance(other, Store) and self.shelf().content() == other.shelf().content()

    def __len__(self):
        return len(self.shelf().standing)

    def __repr__(self):
        return f"Store({self.lanes()} lanes, {len(self)} beads, {len(self.maps())} maps)"


def stocked(shelf):
    """A store that contains what the shelf does, without steps."""
    store = Store(shelf.many)
    store.shelves = [shelf.draft()]
    return store
