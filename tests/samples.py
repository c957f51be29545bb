"""Maps for the tests, and slow answers, taken place by place, to compare with."""

import random

from farlanes.algebra import conjugate
from farlanes.maps import LaneMap

FAR = 10 ** 29


def raised(action, *values, **named):
    """The error of a call, as a pair of its class and its own attributes, or None."""
    try:
        action(*values, **named)
    except (ValueError, LookupError) as error:
        return type(error), {key: vars(error)[key] for key in vars(error) if key != "word"}
    return None


def numbers(seed):
    """A source of numbers that is the same in each run."""
    return random.Random(seed)


def balanced(source, lanes, most):
    """Drifts that sum to zero."""
    drifts = [0] * lanes
    if lanes > 1:
        for turn in range(source.randint(0, most)):
            one, other = source.sample(range(lanes), 2)
            drifts[one] += 1
            drifts[other] -= 1
    return drifts


def one_way(source, lanes, many):
    """Drifts of so many roads, if there are two lanes; some lanes may have none."""
    drifts = [0] * lanes
    if lanes > 1:
        mixed = source.sample(range(lanes), lanes)
        middle = source.randint(1, lanes - 1)
        for turn in range(many):
            drifts[source.choice(mixed[:middle])] -= 1
            drifts[source.choice(mixed[middle:])] += 1
    return drifts


def parts_of(source, drifts, spare):
    """Drifts and goals of some map with these drifts; the goals may be longer than the bounds."""
    sizes = [max(0, -drift) + source.randint(0, spare) for drift in drifts]
    free = [(lane, at) for lane, drift in enumerate(drifts) for at in range(sizes[lane] + drift)]
    source.shuffle(free)
    goals = []
    for size in sizes:
        goals.append(free[:size])
        free = free[size:]
    return drifts, goals


def parts(source, lanes, most=5, spare=4):
    """Drifts and goals of some map; the goals may be longer than the bounds."""
    return parts_of(source, balanced(source, lanes, most), spare)


def some_maps(seed, lanes, many, most=5, spare=4):
    """So many maps of these lanes."""
    source = numbers(seed * 10 + lanes)
    return [LaneMap(*parts(source, lanes, most, spare)) for turn in range(many)]


def image(drifts, goals, place):
    """Where drifts and goals map a place."""
    lane, at = place
    row = goals[lane] if goals else []
    return row[at] if at < len(row) else (lane, at + drifts[lane])


def near_places(lanes, size):
    """The first places of each lane."""
    return [(lane, at) for lane in range(lanes) for at in range(size)]


def far_places(lanes):
    """Places of each lane that are far out."""
    return [(lane, at) for lane in range(lanes) for at in (10 ** 6, 10 ** 18, FAR - 1, FAR)]


def least_bounds(drifts, goals):
    """The bounds, by trying each number from above."""
    bounds = []
    for lane, drift in enumerate(drifts):
        bound = len(goals[lane]) if goals else 0
        while bound > 0 and image(drifts, goals, (lane, bound - 1)) == (lane, bound - 1 + drift):
            bound -= 1
        bounds.append(bound)
    return bounds


def turned(lanes, lane, size, by=1):
    """The map that turns the first places of one lane, so many of them."""
    goals = [[] for other in range(lanes)]
    goals[lane] = [(lane, (at + by) % size) for at in range(size)]
    return LaneMap([0] * lanes, goals)


def carried(lanes, source, sink, many):
    """The map that moves so many places from one lane to another."""
    drifts = [0] * lanes
    drifts[source] -= many
    drifts[sink] += many
    goals = [[] for lane in range(lanes)]
    goals[source] = [(sink, many - 1 - at) for at in range(many)]
    return LaneMap(drifts, goals)


def ringed(lengths):
    """A map of one lane with cycles of these lengths, one behind the other, and where each begins."""
    goals, starts = [], []
    for length in lengths:
        start = len(goals)
        starts.append(start)
        goals += [(0, start + (at + 1) % length) for at in range(length)]
    return LaneMap([0], [goals]), starts


def told(made):
    """All that a map tells of itself and of its first places."""
    near = near_places(made.lanes(), 12)
    about = [made.lanes(), made.drifts(), made.bounds(), made.goals(), len(made), repr(made), str(made)]
    return about + [[made.goal(place) for place in near], [made.source(place) for place in near]]


def shuffled(source, lanes, size):
    """A map without drifts that exchanges the first places of all lanes."""
    free = near_places(lanes, size)
    source.shuffle(free)
    return LaneMap([0] * lanes, [free[lane * size:lane * size + size] for lane in range(lanes)])


def with_cycles(source, made, lengths):
    """A map that does what the given one does above new places, which form cycles of these lengths (1: fixed)."""
    lanes = made.lanes()
    below = [0] * lanes
    for turn in range(sum(lengths)):
        below[source.randrange(lanes)] += 1
    fresh = [(lane, at) for lane in range(lanes) for at in range(below[lane])]
    source.shuffle(fresh)
    ahead = {}
    for length in lengths:
        ring, fresh = fresh[:length], fresh[length:]
        ahead.update(zip(ring, ring[1:] + ring[:1]))
    goals = []
    for lane, row in enumerate(made.goals()):
        old = [(there, at + below[there]) for there, at in row]
        goals.append([ahead[(lane, at)] for at in range(below[lane])] + old)
    mixed = LaneMap(made.drifts(), goals)
    return conjugate(mixed, shuffled(source, lanes, 3))


def rich_maps(seed, lanes, many, most=14):
    """Maps with drifts and without, with inner places that change lanes and several cycles of several lengths."""
    source = numbers(seed * 10 + lanes)
    made = []
    for turn in range(many):
        drifts = one_way(source, lanes, turn % (most + 1))
        base = LaneMap(*parts_of(source, drifts, 4))
        lengths = [source.choice((1, 2, 2, 3, 4, 6)) for each in range(source.randint(0, 5))]
        made.append(with_cycles(source, base, lengths))
    return made


def walked(made, place, count):
    """The place after a small number of steps, one by one."""
    for turn in range(abs(count)):
        place = made.goal(place) if count > 0 else made.source(place)
    return place


def is_tail(made, place):
    """Tell whether the place is at or behind the bound of its lane."""
    return place[1] >= made.bounds()[place[0]]


def inner_places(made):
    """All inner places, ascending."""
    return [(lane, at) for lane, bound in enumerate(made.bounds()) for at in range(bound)]


def slow_finite(made):
    """The finite orbits of inner places, each from its least place, by walking from every place."""
    found = []
    for start in inner_places(made):
        orbit, there = [start], made.goal(start)
        while there != start and not (is_tail(made, there) and made.drifts()[there[0]] > 0):
            orbit.append(there)
            there = made.goal(there)
        if there == start and min(orbit) == start:
            found.append(orbit)
    return found


def slow_roads(made):
    """The roads, each from the last tail place of its incoming lane to the first one behind, by walking."""
    found = []
    drifts, bounds = made.drifts(), made.bounds()
    for lane, drift in enumerate(drifts):
        for at in range(bounds[lane], bounds[lane] + 3 * max(0, -drift)):
            if drift < 0 and not is_tail(made, made.goal((lane, at))):
                road = [(lane, at)]
                while not (is_tail(made, road[-1]) and drifts[road[-1][0]] > 0):
                    road.append(made.goal(road[-1]))
                found.append(road)
    return found


def noted_places(made):
    """All inner places, places beside the bounds and places as far as 10 ** 29."""
    beside = [
        (lane, bound + more)
        for lane, (bound, drift) in enumerate(zip(made.bounds(), made.drifts()))
        for more in range(2 * abs(drift) + 3)
    ]
    return inner_places(made) + beside + far_places(made.lanes())
