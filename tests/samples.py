"""Maps for the tests, and slow answers, taken place by place, to compare with."""

import itertools
import random

from farlanes.algebra import compose, conjugate
from farlanes.maps import LaneMap, swap
from farlanes.orbits import spot

FAR = 10 ** 29


def raised(action, *values, **named):
    """The error of a call, as a pair of its class and its own attributes, or None."""
    try:
        action(*values, **named)
    except (ValueError, LookupError) as error:
        return type(error), {key: vars(error)[key] for key in vars(error) if key != "word"}
    return None


def numbers(seed):
    """A source of numbers that is the same in each run."""
    return random.Random(seed)


def balanced(source, lanes, most):
    """Drifts that sum to zero."""
    drifts = [0] * lanes
    if lanes > 1:
        for turn in range(source.randint(0, most)):
            one, other = source.sample(range(lanes), 2)
            drifts[one] += 1
            drifts[other] -= 1
    return drifts


def one_way(source, lanes, many):
    """Drifts of so many roads, if there are two lanes; some lanes may have none."""
    drifts = [0] * lanes
    if lanes > 1:
        mixed = source.sample(range(lanes), lanes)
        middle = source.randint(1, lanes - 1)
        for turn in range(many):
            drifts[source.choice(mixed[:middle])] -= 1
            drifts[source.choice(mixed[middle:])] += 1
    return drifts


def parts_of(source, drifts, spare):
    """Drifts and goals of some map with these drifts; the goals may be longer than the bounds."""
    sizes = [max(0, -drift) + source.randint(0, spare) for drift in drifts]
    free = [(lane, at) for lane, drift in enumerate(drifts) for at in range(sizes[lane] + drift)]
    source.shuffle(free)
    goals = []
    for size in sizes:
        goals.append(free[:size])
        free = free[size:]
    return drifts, goals


def parts(source, lanes, most=5, spare=4):
    """Drifts and goals of some map; the goals may be longer than the bounds."""
    return parts_of(source, balanced(source, lanes, most), spare)


def some_maps(seed, lanes, many, most=5, spare=4):
    """So many maps of these lanes."""
    source = numbers(seed * 10 + lanes)
    return [LaneMap(*parts(source, lanes, most, spare)) for turn in range(many)]


def image(drifts, goals, place):
    """Where drifts and goals map a place."""
    lane, at = place
    row = goals[lane] if goals else []
    return row[at] if at < len(row) else (lane, at + drifts[lane])


def near_places(lanes, size):
    """The first places of each lane."""
    return [(lane, at) for lane in range(lanes) for at in range(size)]


def far_places(lanes):
    """Places of each lane that are far out."""
    return [(lane, at) for lane in range(lanes) for at in (10 ** 6, 10 ** 18, FAR - 1, FAR)]


def least_bounds(drifts, goals):
    """The bounds, by trying each number from above."""
    bounds = []
    for lane, drift in enumerate(drifts):
        bound = len(goals[lane]) if goals else 0
        while bound > 0 and image(drifts, goals, (lane, bound - 1)) == (lane, bound - 1 + drift):
            bound -= 1
        bounds.append(bound)
    return bounds


def turned(lanes, lane, size, by=1):
    """The map that turns the first places of one lane, so many of them."""
    goals = [[] for other in range(lanes)]
    goals[lane] = [(lane, (at + by) % size) for at in range(size)]
    return LaneMap([0] * lanes, goals)


def carried(lanes, source, sink, many):
    """The map that moves so many places from one lane to another."""
    drifts = [0] * lanes
    drifts[source] -= many
    drifts[sink] += many
    goals = [[] for lane in range(lanes)]
    goals[source] = [(sink, many - 1 - at) for at in range(many)]
    return LaneMap(drifts, goals)


def ringed(lengths):
    """A map of one lane with cycles of these lengths, one behind the other, and where each begins."""
    goals, starts = [], []
    for length in lengths:
        start = len(goals)
        starts.append(start)
        goals += [(0, start + (at + 1) % length) for at in range(length)]
    return LaneMap([0], [goals]), starts


def told(made):
    """All that a map tells of itself and of its first places."""
    near = near_places(made.lanes(), 12)
    about = [made.lanes(), made.drifts(), made.bounds(), made.goals(), len(made), repr(made), str(made)]
    return about + [[made.goal(place) for place in near], [made.source(place) for place in near]]


def shuffled(source, lanes, size):
    """A map without drifts that exchanges the first places of all lanes."""
    free = near_places(lanes, size)
    source.shuffle(free)
    return LaneMap([0] * lanes, [free[lane * size:lane * size + size] for lane in range(lanes)])


def with_cycles(source, made, lengths):
    """A map that does what the given one does above new places, which form cycles of these lengths (1: fixed)."""
    lanes = made.lanes()
    below = [0] * lanes
    for turn in range(sum(lengths)):
        below[source.randrange(lanes)] += 1
    fresh = [(lane, at) for lane in range(lanes) for at in range(below[lane])]
    source.shuffle(fresh)
    ahead = {}
    for length in lengths:
        ring, fresh = fresh[:length], fresh[length:]
        ahead.update(zip(ring, ring[1:] + ring[:1]))
    goals = []
    for lane, row in enumerate(made.goals()):
        old = [(there, at + below[there]) for there, at in row]
        goals.append([ahead[(lane, at)] for at in range(below[lane])] + old)
    mixed = LaneMap(made.drifts(), goals)
    return conjugate(mixed, shuffled(source, lanes, 3))


def rich_maps(seed, lanes, many, most=14):
    """Maps with drifts and without, with inner places that change lanes and several cycles of several lengths."""
    source = numbers(seed * 10 + lanes)
    made = []
    for turn in range(many):
        drifts = one_way(source, lanes, turn % (most + 1))
        base = LaneMap(*parts_of(source, drifts, 4))
        lengths = [source.choice((1, 2, 2, 3, 4, 6)) for each in range(source.randint(0, 5))]
        made.append(with_cycles(source, base, lengths))
    return made


def walked(made, place, count):
    """The place after a small number of steps, one by one."""
    for turn in range(abs(count)):
        place = made.goal(place) if count > 0 else made.source(place)
    return place


def is_tail(made, place):
    """Tell whether the place is at or behind the bound of its lane."""
    return place[1] >= made.bounds()[place[0]]


def inner_places(made):
    """All inner places, ascending."""
    return [(lane, at) for lane, bound in enumerate(made.bounds()) for at in range(bound)]


def slow_finite(made):
    """The finite orbits of inner places, each from its least place, by walking from every place."""
    found = []
    for start in inner_places(made):
        orbit, there = [start], made.goal(start)
        while there != start and not (is_tail(made, there) and made.drifts()[there[0]] > 0):
            orbit.append(there)
            there = made.goal(there)
        if there == start and min(orbit) == start:
            found.append(orbit)
    return found


def slow_roads(made):
    """The roads, each from the last tail place of its incoming lane to the first one behind, by walking."""
    found = []
    drifts, bounds = made.drifts(), made.bounds()
    for lane, drift in enumerate(drifts):
        for at in range(bounds[lane], bounds[lane] + 3 * max(0, -drift)):
            if drift < 0 and not is_tail(made, made.goal((lane, at))):
                road = [(lane, at)]
                while not (is_tail(made, road[-1]) and drifts[road[-1][0]] > 0):
                    road.append(made.goal(road[-1]))
                found.append(road)
    return found


def noted_places(made):
    """All inner places, places beside the bounds and places as far as 10 ** 29."""
    beside = [
        (lane, bound + more)
        for lane, (bound, drift) in enumerate(zip(made.bounds(), made.drifts()))
        for more in range(2 * abs(drift) + 3)
    ]
    return inner_places(made) + beside + far_places(made.lanes())


def wired(lanes, wires):
    """A map with a road for each wire (lane to come in on, lane to go out on, inner places behind the first one)."""
    drifts, below, exits = [0] * lanes, [0] * lanes, [0] * lanes
    for source, sink, more in wires:
        drifts[source] -= 1
        drifts[sink] += 1
        below[sink] += more
    goals = [[] for lane in range(lanes)]
    for source, sink, more in wires:
        first = len(goals[sink])
        goals[sink] += [(sink, first + turn + 1) for turn in range(more)]
        out = (sink, below[sink] + exits[sink])
        exits[sink] += 1
        if more:
            goals[sink][-1] = out
        goals[source].append((sink, first) if more else out)
    return LaneMap(drifts, goals)


def conjugate_pair(source, lanes, many):
    """A map with so many roads, a conjugate of it, and the conjugator, which has drifts and inner places."""
    one = LaneMap(*parts_of(source, one_way(source, lanes, many), 3))
    one = with_cycles(source, one, [source.choice((1, 2, 2, 3)) for turn in range(source.randint(0, 3))])
    by = LaneMap(*parts_of(source, balanced(source, lanes, 4), 4))
    return one, conjugate(one, by), by


def conjugate_pairs(seed, lanes, many, most=6):
    """So many pairs of conjugate maps, with their conjugators."""
    source = numbers(seed * 10 + lanes)
    return [conjugate_pair(source, lanes, turn % (most + 1)) for turn in range(many)]


def close_pairs(seed, lanes, many, most=6):
    """Pairs of maps with the same drifts, equally many cycles of each length and equally many fixed places."""
    source = numbers(seed * 10 + lanes)
    found = []
    while len(found) < many:
        one, other, by = conjugate_pair(source, lanes, source.randint(1, most))
        ends = [row[-1] for row in slow_roads(other)]
        other = compose(other, swap(lanes, source.choice(ends), source.choice(ends)))
        if source.random() < 0.3:
            other = LaneMap(*parts_of(source, one.drifts(), 3))
        if facts(one) == facts(other):
            found.append((one, other))
    return found


def facts(made):
    """The drifts, the lengths of the cycles, and the number of fixed inner places if no lane has drift zero."""
    sizes = sorted(len(orbit) for orbit in slow_finite(made))
    return made.drifts(), [size for size in sizes if size > 1], sizes.count(1) if 0 not in made.drifts() else 0


def all_choices(drifts):
    """All choices, ascending."""
    return list(itertools.product(*[range(-drift) for drift in drifts if drift < 0]))


def outset(made, row):
    """The number e - t * q of a road with the exit e at index q, going out on a lane with drift t."""
    lane, at = row[-1]
    return at - made.drifts()[lane] * (len(row) - 1)


def slow_gap(one, other, choice, own):
    """The gap of a road for a choice, or None if its partner goes out on another lane, as the document has it."""
    rows, others, drifts = slow_roads(one), slow_roads(other), one.drifts()
    lane, at = rows[own][0]
    rest = choice[[other_lane for other_lane, drift in enumerate(drifts) if drift < 0].index(lane)]
    step = -drifts[lane]
    partner = [row for row in others if row[0][0] == lane and (row[0][1] - at - rest) % step == 0][0]
    if partner[-1][0] != rows[own][-1][0]:
        return None
    shift = (partner[0][1] - at - rest) // step
    return outset(other, partner) - outset(one, rows[own]) + drifts[partner[-1][0]] * shift


def slow_leaf(one, other, choice, leaf):
    """Tell whether a leaf of the right form is right for a choice, as the document has it."""
    rows, drifts = slow_roads(one), one.drifts()
    numbers_of = list(leaf[1]) if leaf[0] == "ring" else list(leaf[1:])
    if not all(0 <= number < len(rows) for number in numbers_of):
        return False
    gaps = {number: slow_gap(one, other, choice, number) for number in numbers_of}
    if leaf[0] == "lane":
        return gaps[leaf[1]] is None
    if len(numbers_of) % 2 or not numbers_of or None in gaps.values():
        return False
    total = 0
    for first, second in zip(numbers_of[::2], numbers_of[1::2]):
        lane = rows[first][-1][0]
        if rows[second][-1][0] != lane:
            return False
        apart = gaps[first] - gaps[second]
        if leaf[0] == "part":
            return apart % drifts[lane] != 0
        if apart % drifts[lane]:
            return False
        total += apart // drifts[lane]
    links = zip(numbers_of[1::2], numbers_of[2::2] + numbers_of[:1])
    return total != 0 and all(rows[second][0][0] == rows[first][0][0] for second, first in links)


def slow_plan(one, other, plan):
    """Tell whether a plan holds, as the document has it."""
    word, moves, pairs, rings = plan
    rows, others, drifts = slow_roads(one), slow_roads(other), one.drifts()
    mine = [row for row in slow_finite(one) if len(row) > 1]
    theirs = [row for row in slow_finite(other) if len(row) > 1]
    if word != "plan" or drifts != other.drifts() or len(moves) != len(drifts) or sum(moves):
        return False
    if sorted(pair[0] for pair in pairs) != list(range(len(others))) or len(pairs) != len(rows):
        return False
    if sorted(pair[0] for pair in rings) != list(range(len(theirs))) or len(rings) != len(mine):
        return False
    for row, (number, shift) in zip(rows, pairs):
        source, sink, there = row[0][0], row[-1][0], others[number]
        if (source, sink) != (there[0][0], there[-1][0]):
            return False
        if moves[source] != there[0][1] - row[0][1] + drifts[source] * shift:
            return False
        if moves[sink] != outset(other, there) - outset(one, row) + drifts[sink] * shift:
            return False
    for row, (number, shift) in zip(mine, rings):
        if len(row) != len(theirs[number]) or not 0 <= shift < len(row):
            return False
    return facts(one) == facts(other)


def plan_by(one, other, by):
    """The plan of a conjugator."""
    pairs = [spot(other, by.goal(row[0]))[1:] for row in slow_roads(one)]
    rings = [spot(other, by.goal(row[0]))[1:] for row in slow_finite(one) if len(row) > 1]
    return ("plan", by.drifts(), pairs, rings)


def changed_plans(plan):
    """The plan with each of its numbers one greater, and one less."""
    word, moves, pairs, rings = plan
    found = []
    for by in (1, -1):
        for at in range(len(moves)):
            found.append((word, moves[:at] + [moves[at] + by] + moves[at + 1:], pairs, rings))
        for at, (number, shift) in enumerate(pairs):
            for pair in ((number + by, shift), (number, shift + by)):
                found.append((word, moves, pairs[:at] + [pair] + pairs[at + 1:], rings))
        for at, (number, shift) in enumerate(rings):
            for pair in ((number + by, shift), (number, shift + by)):
                found.append((word, moves, pairs, rings[:at] + [pair] + rings[at + 1:]))
    return found
