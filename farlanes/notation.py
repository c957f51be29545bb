"""Lane maps as texts."""

from farlanes.errors import BadText, LaneError
from farlanes.maps import LaneMap
from farlanes.numerals import integer_of, place_of

# Numbers have at most 30 digits.
MOST_WRITTEN = 10 ** 30 - 1


def format_map(lane_map):
    """The text of a lane map."""
    return str(lane_map)


def read_part(part):
    """The drift and the goals of a part, or None if it is not written as a part."""
    words = part.split(" ")
    drift = integer_of(words[0], MOST_WRITTEN)
    goals = [place_of(word, MOST_WRITTEN) for word in words[1:]]
    if drift is None or None in goals:
        return None
    return (drift, goals)


def read_parts(text):
    """The drift and the goals of each part; raise BadText for the first one that is not written as a part."""
    parts = []
    for at, part in enumerate(text.split(" | ")):
        found = read_part(part)
        if found is None:
            raise BadText(at)
        parts.append(found)
    return parts


def parse_map(text):
    """The lane map of a text."""
    parts = read_parts(text)
    try:
        lane_map = LaneMap([drift for drift, goals in parts], [goals for drift, goals in parts])
    except LaneError:
        raise BadText(len(parts)) from None
    # Goals behind the bounds make a map, but it has another text.
    if format_map(lane_map) != text:
        raise BadText(len(parts))
    return lane_map
