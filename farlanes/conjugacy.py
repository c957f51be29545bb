"""Deciding whether two lane maps are conjugate, and the maps that plans describe."""

from farlanes.algebra import check_same_lanes
from farlanes.errors import BadPlan, TooMany
from farlanes.judging import cycle_counts, fixed_differ, holds
from farlanes.maps import LaneMap, check_place, check_width, rows_of
from farlanes.pairing import choice_count
from farlanes.planning import Conjugator
from farlanes.solving import plan_or_leaves
from farlanes.tracks import Tracks

MOST_CHOICES = 1000


def plain_obstruction(one, other):
    """The first obstruction that needs no choices, or None."""
    for lane, pace in enumerate(one.paces):
        if pace != other.paces[lane]:
            return ("drift", lane)
    counts, others = cycle_counts(one), cycle_counts(other)
    for length in sorted(set(list(counts) + list(others))):
        if counts.get(length, 0) != others.get(length, 0):
            return ("cycles", length)
    if fixed_differ(one, other):
        return ("fixed",)
    return None


def conjugacy(one, other, *, most=MOST_CHOICES):
    """A plan that holds, or an obstruction."""
    check_same_lanes(one, other)
    first, second = Tracks(one), Tracks(other)
    obstruction = plain_obstruction(first, second)
    if obstruction is not None:
        return obstruction
    if choice_count(first.paces) > most:
        raise TooMany(most)
    return plan_or_leaves(first, second)


def conjugator_of(one, other, plan):
    """The bijection of a plan; raise OtherLanes or BadPlan if there is none."""
    check_same_lanes(one, other)
    first, second = Tracks(one), Tracks(other)
    if not holds(first, second, plan):
        raise BadPlan()
    return Conjugator(first, second, plan)


def plan_image(one, other, plan, place):
    """The place to which the plan maps a place."""
    conjugator = conjugator_of(one, other, plan)
    check_place(one.lanes(), place)
    return conjugator.image_of(place)


def plan_map(one, other, plan):
    """The lane map of the plan."""
    conjugator = conjugator_of(one, other, plan)
    moves = conjugator.moves
    # A bound is at least minus the move, so what is refused here is too wide, and the rest can be listed.
    check_width([max(0, -move) for move in moves])
    return LaneMap(moves, rows_of(moves, conjugator.starts, lambda place: conjugator.image_of(place)))
