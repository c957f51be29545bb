"""Maps for the tests, and slow answers, taken place by place, to compare with."""

import random

from farlanes.maps import LaneMap

FAR = 10 ** 29


def raised(action, *values, **named):
    """The error of a call, as a pair of its class and its own attributes, or None."""
    try:
        action(*values, **named)
    except (ValueError, LookupError) as error:
        return type(error), {key: vars(error)[key] for key in vars(error) if key != "word"}
    return None


def numbers(seed):
    """A source of numbers that is the same in each run."""
    return random.Random(seed)


def balanced(source, lanes, most):
    """Drifts that sum to zero."""
    drifts = [0] * lanes
    if lanes > 1:
        for turn in range(source.randint(0, most)):
            one, other = source.sample(range(lanes), 2)
            drifts[one] += 1
            drifts[other] -= 1
    return drifts


def parts(source, lanes, most=5, spare=4):
    """Drifts and goals of some map; the goals may be longer than the bounds."""
    drifts = balanced(source, lanes, most)
    sizes = [max(0, -drift) + source.randint(0, spare) for drift in drifts]
    free = [(lane, at) for lane in range(lanes) for at in range(sizes[lane] + drifts[lane])]
    source.shuffle(free)
    goals = []
    for size in sizes:
        goals.append(free[:size])
        free = free[size:]
    return drifts, goals


def some_maps(seed, lanes, many, most=5, spare=4):
    """So many maps of these lanes."""
    source = numbers(seed * 10 + lanes)
    return [LaneMap(*parts(source, lanes, most, spare)) for turn in range(many)]


def image(drifts, goals, place):
    """Where drifts and goals map a place."""
    lane, at = place
    row = goals[lane] if goals else []
    return row[at] if at < len(row) else (lane, at + drifts[lane])


def near_places(lanes, size):
    """The first places of each lane."""
    return [(lane, at) for lane in range(lanes) for at in range(size)]


def far_places(lanes):
    """Places of each lane that are far out."""
    return [(lane, at) for lane in range(lanes) for at in (10 ** 6, 10 ** 18, FAR - 1, FAR)]


def least_bounds(drifts, goals):
    """The bounds, by trying each number from above."""
    bounds = []
    for lane, drift in enumerate(drifts):
        bound = len(goals[lane]) if goals else 0
        while bound > 0 and image(drifts, goals, (lane, bound - 1)) == (lane, bound - 1 + drift):
            bound -= 1
        bounds.append(bound)
    return bounds


def turned(lanes, lane, size, by=1):
    """The map that turns the first places of one lane, so many of them."""
    goals = [[] for other in range(lanes)]
    goals[lane] = [(lane, (at + by) % size) for at in range(size)]
    return LaneMap([0] * lanes, goals)


def carried(lanes, source, sink, many):
    """The map that moves so many places from one lane to another."""
    drifts = [0] * lanes
    drifts[source] -= many
    drifts[sink] += many
    goals = [[] for lane in range(lanes)]
    goals[source] = [(sink, many - 1 - at) for at in range(many)]
    return LaneMap(drifts, goals)


def told(made):
    """All that a map tells of itself and of its first places."""
    near = near_places(made.lanes(), 12)
    about = [made.lanes(), made.drifts(), made.bounds(), made.goals(), len(made), repr(made), str(made)]
    return about + [[made.goal(place) for place in near], [made.source(place) for place in near]]
