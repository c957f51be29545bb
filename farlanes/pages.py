"""Stores as texts."""

from farlanes.errors import BadPage, LaneError
from farlanes.maps import MOST_LANES
from farlanes.notation import MOST_WRITTEN, format_map, parse_map
from farlanes.numerals import natural_of, place_of, place_text
from farlanes.store import Shelf, stocked


def page(store):
    """The page of a store."""
    rows = [f"lanes {store.lanes()}"]
    rows += [f"map {name} {format_map(store.lane_map(name))}" for name in store.maps()]
    rows += [f"bead {bead} {place_text(place)}" for bead, place in store.beads()]
    return "".join([row + "\n" for row in rows])


def read_lanes(row):
    """The number of lanes that the first row tells, or None."""
    word, space, text = row.partition(" ")
    lanes = natural_of(text, MOST_LANES)
    return None if word != "lanes" or lanes == 0 else lanes


def read_row(row):
    """The step that adds the thing of a row, or an empty tuple if the row is not so written."""
    word, space, rest = row.partition(" ")
    name, gap, text = rest.partition(" ")
    if word == "map":
        return ("define", name, parse_map(text))
    place = place_of(text, MOST_WRITTEN)
    return () if word != "bead" or place is None else ("put", name, place)


def read_shelf(lanes, rows):
    """What a store with these rows of maps and beads contains."""
    shelf = Shelf(lanes)
    last = ()
    for number, row in enumerate(rows, start=1):
        try:
            step = read_row(row)
            # The shelf refuses an empty tuple, and whatever it has no room for.
            shelf.do(step)
        except LaneError:
            raise BadPage(number) from None
        # The word of a map's step comes before that of a bead's.
        if step[:2] < last:
            raise BadPage(number)
        last = step[:2]
    return shelf


def read_page(text):
    """The store of a page."""
    rows = text.split("\n")
    lanes = read_lanes(rows[0])
    if lanes is None:
        raise BadPage(0)
    shelf = read_shelf(lanes, rows[1:-1])
    # What stands behind the last newline is a row that lacks its own.
    if rows[-1] != "":
        raise BadPage(len(rows) - 1)
    return stocked(shelf)
