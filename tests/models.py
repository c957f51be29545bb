"""A slow store, as the document has it, and steps for the tests of the store."""

import re

from farlanes.errors import (
    BadCount, BadDeed, BadName, BadPlace, Full, Held, LaneError, Missing, NoBead, NoMap, NoName, NothingLeft,
    OtherLanes, Stopped, Taken,
)
from farlanes.maps import identity
from farlanes.travel import advance
from tests.samples import FAR, some_maps

MOST = 10 ** 18
ITEMS = {"put": 3, "take": 2, "rename": 3, "define": 3, "drop": 2, "move": 3}
NAMES = ["a", "b", "c", "d", "x", "y", "z", "abcdefgh"]
BAD_NAMES = ["", "A", "aB", "abcdefghi", "identity", "lead", "swap", "a1", "a b", "a\n", "-", "a.b"]


def check_new(beads, maps, name):
    if not re.fullmatch("[a-z]{1,8}", name) or name in ("identity", "lead", "swap"):
        raise BadName()
    if name in beads or name in maps:
        raise Taken(name)


def slow_put(lanes, beads, maps, bead, place):
    check_new(beads, maps, bead)
    if not 0 <= place[0] < lanes or place[1] < 0:
        raise BadPlace(place)
    for other in beads:
        if beads[other] == place:
            raise Held(other)
    if len(beads) == 40:
        raise Full()
    return {**beads, bead: place}, maps, []


def slow_define(lanes, beads, maps, name, made):
    check_new(beads, maps, name)
    if made.lanes() != lanes:
        raise OtherLanes()
    if len(maps) == 12:
        raise Full()
    return beads, {**maps, name: made}, []


def slow_rename(beads, maps, name, new):
    if name not in beads and name not in maps:
        raise NoName(name)
    check_new(beads, maps, new)
    renamed = [{new if key == name else key: things[key] for key in things} for things in (beads, maps)]
    return renamed[0], renamed[1], []


def slow_move(beads, maps, name, count):
    if name not in maps:
        raise NoMap(name)
    if abs(count) > MOST:
        raise BadCount(count)
    return {bead: advance(maps[name], beads[bead], count=count) for bead in beads}, maps, [(maps[name], count)]


def slow_step(lanes, beads, maps, step):
    """The beads, the maps and the moves of a step."""
    if not step or step[0] not in ITEMS or len(step) != ITEMS[step[0]]:
        raise BadDeed()
    word = step[0]
    if word == "put":
        return slow_put(lanes, beads, maps, step[1], step[2])
    if word == "define":
        return slow_define(lanes, beads, maps, step[1], step[2])
    if word == "rename":
        return slow_rename(beads, maps, step[1], step[2])
    if word == "move":
        return slow_move(beads, maps, step[1], step[2])
    if word == "take" and step[1] not in beads:
        raise NoBead(step[1])
    if word == "drop" and step[1] not in maps:
        raise NoMap(step[1])
    return tuple({key: things[key] for key in things if key != step[1]} for things in (beads, maps)) + ([],)


class Model:
    """A store that keeps all of its states in two lists."""

    def __init__(self, lanes):
        self.many = lanes
        self.past = [({}, {}, [])]
        self.future = []

    def after(self, state, step):
        beads, maps, moves = slow_step(self.many, state[0], state[1], step)
        return beads, maps, state[2] + moves

    def keep(self, state):
        self.past.append(state)
        self.future = []

    def do(self, step):
        self.keep(self.after(self.past[-1], step))

    def all_of(self, steps):
        state = self.past[-1]
        for at, step in enumerate(steps):
            try:
                state = self.after(state, step)
            except (LaneError, Missing) as error:
                raise Stopped(at) from error
        self.keep(state)

    def undo(self):
        if len(self.past) == 1:
            raise NothingLeft()
        self.future.append(self.past.pop())

    def redo(self):
        if not self.future:
            raise NothingLeft()
        self.past.append(self.future.pop())

    def twin(self):
        made = Model(self.many)
        made.past, made.future = list(self.past), list(self.future)
        return made


def told_model(model):
    """All that a store like the model has to tell."""
    beads, maps, moves = model.past[-1]
    places = [(lane, at) for lane in range(model.many) for at in range(6)] + sorted(beads.values())
    holders = {beads[bead]: bead for bead in beads}
    undone = len(model.past) - 1
    return {
        "lanes": model.many,
        "beads": sorted(beads.items()),
        "maps": [(name, str(maps[name])) for name in sorted(maps)],
        "at": [holders.get(place) for place in places],
        "where": [beads[bead] for bead in sorted(beads)],
        "moves": [(str(made), count) for made, count in moves],
        "steps": (undone, len(model.future)),
        "was": [model.past[-1 - back][0].get(name) for name in NAMES + BAD_NAMES for back in range(undone + 1)],
        "len": len(beads),
        "repr": f"Store({model.many} lanes, {len(beads)} beads, {len(maps)} maps)",
    }


def told_store(store):
    """All that a store tells."""
    beads, undone = store.beads(), store.steps()[0]
    places = [(lane, at) for lane in range(store.lanes()) for at in range(6)] + sorted(place for bead, place in beads)
    return {
        "lanes": store.lanes(),
        "beads": beads,
        "maps": [(name, str(store.lane_map(name))) for name in store.maps()],
        "at": [store.bead_at(place) for place in places],
        "where": [store.where(bead) for bead, place in beads],
        "moves": [(str(made), count) for made, count in store.history()],
        "steps": store.steps(),
        "was": [store.was(name, back) for name in NAMES + BAD_NAMES for back in range(undone + 1)],
        "len": len(store),
        "repr": repr(store),
    }


def drawn_step(source, lanes, maps):
    """A step that may be wrong in any way."""
    name = source.choice(NAMES if source.random() < 0.9 else BAD_NAMES)
    other = source.choice(NAMES if source.random() < 0.9 else BAD_NAMES)
    word = source.choice(("put", "put", "put", "take", "rename", "define", "define", "drop", "move", "move", "move"))
    place = (source.randrange(-1, lanes + 1), source.randrange(-1, 5))
    if source.random() < 0.7:
        place = (source.randrange(lanes), source.choice((0, 1, 2, 3, 4, 5, MOST, FAR)))
    count = source.choice((-3, -1, 0, 1, 1, 2, 5, MOST, -MOST, MOST + 1, -MOST - 1, FAR))
    made = source.choice(maps) if source.random() < 0.9 else identity(lanes % 6 + 1)
    step = {
        "put": ("put", name, place), "take": ("take", name), "rename": ("rename", name, other),
        "define": ("define", name, made), "drop": ("drop", name), "move": ("move", name, count),
    }[word]
    if source.random() < 0.04:
        return source.choice(((), step[:-1], step + (0,), ("Put",) + step[1:], (word,), ("undo",), (0, name), (None,)))
    return step


def drawn_maps(seed, lanes):
    """Maps to define."""
    return some_maps(seed, lanes, 4, 3, 3)
