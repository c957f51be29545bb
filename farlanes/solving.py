"""Finding a plan for one of the choices, or a leaf for each of them."""

from farlanes.pairing import Pairing, choice_count, choice_rests, incoming, road_moves


def lane_links(pairing, lane, rest):
    """The links of an incoming lane: (lane, lane to go out on, road, gap), one for each gap that occurs there.

    Links that leave no plan end the list: a road with another lane than its partner, or two gaps on one lane.
    """
    gaps = {}
    links = []
    for number, road in enumerate(pairing.one.roads):
        if road[0][0] == lane:
            sink, gap = road[-1][0], pairing.gap(number, rest)
            if sink not in gaps or gaps[sink] != gap:
                links.append((lane, sink, number, gap))
            if gap is None or gaps.setdefault(sink, gap) != gap:
                break
    return links


def mismatch(paces, links):
    """The leaf of a road whose partner goes out elsewhere, or of two gaps with different rests, or None."""
    first = {}
    for lane, sink, road, gap in links:
        if gap is None:
            return ("lane", road)
        start, start_gap = first.setdefault(sink, (road, gap))
        if (gap - start_gap) % paces[sink] != 0:
            return ("part", start, road)
    return None


def half_known(heights, links):
    """The first link of a lane with a height and one without, or None."""
    for link in links:
        if (link[0] in heights) != (link[1] in heights):
            return link
    return None


def spread(paces, links):
    """Heights of the lanes that fit the links if any do, and for each lane the roads from it to a lane of height 0.

    The height of an incoming lane is how many turns its move has beyond the rest; the height of an outgoing lane is
    minus the whole turns of its move. A link asks that its two heights differ by the whole turns of its gap.
    """
    heights = {}
    ways = {}
    for start in incoming(paces):
        if start not in heights:
            heights[start], ways[start] = 0, []
        link = half_known(heights, links)
        while link is not None:
            lane, sink, road, gap = link
            if lane in heights:
                heights[sink] = heights[lane] - gap // paces[sink]
                ways[sink] = [road] + ways[lane]
            else:
                heights[lane] = heights[sink] + gap // paces[sink]
                ways[lane] = [road] + ways[sink]
            link = half_known(heights, links)
    return heights, ways


def ring_leaf(paces, links, heights, ways):
    """The leaf of a ring that the heights do not fit, or None."""
    for lane, sink, road, gap in links:
        if heights[lane] - heights[sink] != gap // paces[sink]:
            there, back = list(ways[sink]), list(ways[lane])
            # What both ways share is no part of the ring.
            while len(there) > 0 and len(back) > 0 and there[-1] == back[-1]:
                there.pop()
                back.pop()
            return ("ring", [road] + there + back[::-1])
    return None


def by_length(cycles):
    """The numbers of the cycles, the shortest first."""
    return sorted(range(len(cycles)), key=lambda number: len(cycles[number]))


def cycle_pairs(one, other):
    """A cycle of other with the same length for each cycle of one; there are equally many of each length."""
    partners = {}
    for number, partner in zip(by_length(one.cycles), by_length(other.cycles)):
        partners[number] = partner
    return [(partners[number], 0) for number in range(len(one.cycles))]


def plan_of(pairing, rests, heights):
    """The plan of a choice whose links the heights fit."""
    one, other = pairing.one, pairing.other
    moves = [0] * len(one.paces)
    pairs = []
    for road in range(len(one.roads)):
        source, sink = one.way(road)
        number, shift = pairing.partner(road, rests[source])
        shift -= heights[source]
        moves[source], moves[sink] = road_moves(one, other, road, number, shift)
        pairs.append((number, shift))
    if 0 in one.paces:
        # Any move suits a lane of fixed places; without such a lane the moves sum to zero by themselves.
        moves[one.paces.index(0)] = -sum(moves)
    return ("plan", moves, pairs, cycle_pairs(one, other))


def plan_or_leaves(one, other):
    """A plan that holds, or the obstruction with a leaf for each choice.

    The tracks have the same drifts, equally many cycles of each length and equally many fixed places.
    """
    pairing = Pairing(one, other)
    lanes = incoming(one.paces)
    # Many choices share the rest of a lane, so the links of each rest are found once.
    known = {}
    leaves = []
    for number in range(choice_count(one.paces)):
        rests = choice_rests(one.paces, number)
        for lane in lanes:
            if (lane, rests[lane]) not in known:
                known[(lane, rests[lane])] = lane_links(pairing, lane, rests[lane])
        links = [link for lane in lanes for link in known[(lane, rests[lane])]]
        leaf = mismatch(one.paces, links)
        if leaf is None:
            heights, ways = spread(one.paces, links)
            leaf = ring_leaf(one.paces, links, heights, ways)
            if leaf is None:
                return plan_of(pairing, rests, heights)
        leaves.append(leaf)
    return ("choices", leaves)
