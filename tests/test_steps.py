"""The steps of a store one by one, and their errors in their order."""

import unittest

from farlanes.errors import (
    BadCount, BadDeed, BadLanes, BadName, BadPlace, Full, Held, NoBead, NoMap, NoName, OtherLanes, Taken,
)
from farlanes.maps import identity, lead, swap
from farlanes.store import MOST_BEADS, MOST_MAPS, Store
from farlanes.travel import advance
from tests.models import BAD_NAMES, ITEMS, MOST, drawn_maps, told_store
from tests.samples import FAR, numbers, raised, rich_maps

ALL_LANES = range(1, 7)
GOOD_NAMES = ["a", "z", "ab", "abcdefgh", "leads", "ident", "swaps", "zzzzzzzz"]


def letters(many):
    """So many names."""
    return [chr(97 + at // 26) + chr(97 + at % 26) for at in range(many)]


def filled(lanes):
    """A store with two beads and a map."""
    store = Store(lanes)
    store.put("a", (0, 0))
    store.put("b", (lanes - 1, 3))
    store.define("x", swap(lanes, (0, 0), (0, 2)))
    return store


class Steps(unittest.TestCase):
    def refused(self, store, step, error, values=None):
        """The step raises this error, alone and as a method, and the store stays as it is."""
        before = told_store(store)
        self.assertEqual(raised(store.do, step), (error, values or {}), step)
        if error != BadDeed and step[0] == "put":
            self.assertEqual(raised(store.put, *step[1:]), (error, values or {}))
        if error != BadDeed and step[0] == "define":
            self.assertEqual(raised(store.define, *step[1:]), (error, values or {}))
        if error != BadDeed and step[0] == "move":
            self.assertEqual(raised(store.move, step[1], count=step[2]), (error, values or {}))
        self.assertEqual(told_store(store), before)


class New(unittest.TestCase):
    def test_an_empty_store(self):
        for lanes in ALL_LANES:
            store = Store(lanes)
            self.assertEqual((store.lanes(), store.beads(), store.maps(), store.history()), (lanes, [], [], []))
            self.assertEqual((store.steps(), len(store)), ((0, 0), 0))
            self.assertEqual(repr(store), f"Store({lanes} lanes, 0 beads, 0 maps)")

    def test_numbers_of_lanes(self):
        for lanes in (0, 7, -1, FAR, -FAR):
            self.assertEqual(raised(Store, lanes), (BadLanes, {}))

    def test_the_limits(self):
        self.assertEqual((MOST_BEADS, MOST_MAPS), (40, 12))


class Put(Steps):
    def test_good_names_and_places(self):
        for lanes in ALL_LANES:
            for name in GOOD_NAMES:
                for place in ((0, 0), (lanes - 1, 7), (0, MOST), (lanes - 1, FAR)):
                    store = Store(lanes)
                    self.assertIsNone(store.do(("put", name, place)))
                    self.assertEqual(store.beads(), [(name, place)])
                    self.assertEqual(store.where(name), place)
                    self.assertEqual(store.bead_at(place), name)
                    self.assertEqual(store.steps(), (1, 0))

    def test_errors(self):
        for lanes in ALL_LANES:
            store = filled(lanes)
            for name in BAD_NAMES:
                self.refused(store, ("put", name, (0, 5)), BadName)
            for name in ("a", "b", "x"):
                self.refused(store, ("put", name, (0, 5)), Taken, {"name": name})
            for place in ((lanes, 0), (-1, 0), (0, -1), (FAR, 0), (0, -FAR)):
                self.refused(store, ("put", "c", place), BadPlace, {"place": place})
            self.refused(store, ("put", "c", (0, 0)), Held, {"by": "a"})
            self.refused(store, ("put", "c", (lanes - 1, 3)), Held, {"by": "b"})

    def test_the_order_of_errors(self):
        for lanes in ALL_LANES:
            store = filled(lanes)
            for turn, name in enumerate(letters(38)):
                store.put(name, (0, 10 + turn))
            self.assertEqual(len(store), 40)
            for name in BAD_NAMES:
                for place in ((0, 0), (lanes, 0), (0, 9)):
                    self.refused(store, ("put", name, place), BadName)
            for place in ((0, 0), (lanes, 0), (0, 9)):
                self.refused(store, ("put", "x", place), Taken, {"name": "x"})
                self.refused(store, ("put", "a", place), Taken, {"name": "a"})
            self.refused(store, ("put", "c", (lanes, 0)), BadPlace, {"place": (lanes, 0)})
            self.refused(store, ("put", "c", (0, 0)), Held, {"by": "a"})
            self.refused(store, ("put", "c", (0, 9)), Full)

    def test_room_again(self):
        store = Store(1)
        for at, name in enumerate(letters(40)):
            store.put(name, (0, at))
        self.refused(store, ("put", "x", (0, 40)), Full)
        store.do(("take", "ac"))
        store.put("x", (0, 2))
        self.refused(store, ("put", "y", (0, 40)), Full)
        self.assertEqual(len(store), 40)
        store.define("m", identity(1))


class Take(Steps):
    def test_take(self):
        for lanes in ALL_LANES:
            store = filled(lanes)
            self.assertIsNone(store.do(("take", "a")))
            self.assertEqual(store.beads(), [("b", (lanes - 1, 3))])
            self.assertIsNone(store.bead_at((0, 0)))
            self.assertEqual(store.maps(), ["x"])
            for name in ["a", "x", "c"] + BAD_NAMES:
                self.refused(store, ("take", name), NoBead, {"name": name})


class Rename(Steps):
    def test_beads_and_maps(self):
        for lanes in ALL_LANES:
            store = filled(lanes)
            made = store.lane_map("x")
            self.assertIsNone(store.do(("rename", "a", "c")))
            self.assertEqual(store.beads(), [("b", (lanes - 1, 3)), ("c", (0, 0))])
            store.do(("rename", "x", "a"))
            self.assertEqual(store.maps(), ["a"])
            self.assertTrue(store.lane_map("a") == made)
            self.assertEqual(store.bead_at((0, 0)), "c")
            self.assertEqual(store.steps(), (5, 0))

    def test_errors(self):
        for lanes in ALL_LANES:
            store = filled(lanes)
            for name in ["c"] + BAD_NAMES:
                for new in ["a", "d", "x"] + BAD_NAMES:
                    self.refused(store, ("rename", name, new), NoName, {"name": name})
            for name in ("a", "b", "x"):
                for new in BAD_NAMES:
                    self.refused(store, ("rename", name, new), BadName)
                for new in ("a", "b", "x"):
                    self.refused(store, ("rename", name, new), Taken, {"name": new})

    def test_in_a_full_store(self):
        store = Store(1)
        for at, name in enumerate(letters(40)):
            store.put(name, (0, at))
        store.do(("rename", "aa", "x"))
        self.assertEqual(store.where("x"), (0, 0))


class Define(Steps):
    def test_define(self):
        for lanes in ALL_LANES:
            for name, made in zip(GOOD_NAMES, rich_maps(800, lanes, 8)):
                store = Store(lanes)
                self.assertIsNone(store.do(("define", name, made)))
                self.assertEqual(store.maps(), [name])
                self.assertTrue(store.lane_map(name) == made)
                self.assertEqual(len(store), 0)

    def test_errors(self):
        for lanes in ALL_LANES:
            store = filled(lanes)
            others = [identity(other) for other in ALL_LANES if other != lanes]
            for made in others + [identity(lanes)]:
                for name in BAD_NAMES:
                    self.refused(store, ("define", name, made), BadName)
                for name in ("a", "b", "x"):
                    self.refused(store, ("define", name, made), Taken, {"name": name})
            for made in others:
                self.refused(store, ("define", "c", made), OtherLanes)

    def test_twelve_maps(self):
        for lanes in ALL_LANES:
            store = filled(lanes)
            for name in letters(11):
                store.define(name, identity(lanes))
            self.refused(store, ("define", "c", identity(lanes)), Full)
            self.refused(store, ("define", "c", identity(lanes % 6 + 1)), OtherLanes)
            self.refused(store, ("define", "a", identity(lanes)), Taken, {"name": "a"})
            self.refused(store, ("define", "", identity(lanes)), BadName)
            store.do(("drop", "ab"))
            store.define("c", identity(lanes))
            self.refused(store, ("define", "ab", identity(lanes)), Full)
            self.assertEqual(len(store.maps()), 12)
            store.put("d", (0, 1))


class Drop(Steps):
    def test_drop(self):
        for lanes in ALL_LANES:
            store = filled(lanes)
            self.assertIsNone(store.do(("drop", "x")))
            self.assertEqual(store.maps(), [])
            self.assertEqual(len(store), 2)
            for name in ["x", "a", "c"] + BAD_NAMES:
                self.refused(store, ("drop", name), NoMap, {"name": name})
                self.assertEqual(raised(store.lane_map, name), (NoMap, {"name": name}))


class Move(Steps):
    def test_counts(self):
        for lanes in ALL_LANES:
            for made in rich_maps(801, lanes, 5):
                for count in (0, 1, -1, 2, 7, -7, MOST, -MOST):
                    store = Store(lanes)
                    starts = [(lane, at) for lane in range(lanes) for at in (0, 1, 5)]
                    for name, start in zip(letters(len(starts)), starts):
                        store.put(name, start)
                    store.define("x", made)
                    self.assertIsNone(store.do(("move", "x", count)))
                    goals = [advance(made, start, count=count) for start in starts]
                    self.assertEqual(store.beads(), list(zip(letters(len(starts)), goals)))
                    self.assertEqual([store.bead_at(goal) for goal in goals], letters(len(starts)))
                    other = Store(lanes)
                    other.all_of([("put", name, start) for name, start in zip(letters(len(starts)), starts)])
                    other.define("x", made)
                    other.move("x", count=count)
                    self.assertTrue(other == store)

    def test_the_count_left_out(self):
        store = Store(2)
        store.put("a", (0, 2))
        store.define("x", lead(2, 0, 1))
        self.assertIsNone(store.move("x"))
        self.assertEqual(store.where("a"), (0, 1))
        self.assertEqual(store.history()[0][1], 1)

    def test_errors(self):
        for lanes in ALL_LANES:
            store = filled(lanes)
            for count in (MOST + 1, -MOST - 1, FAR, -FAR):
                self.refused(store, ("move", "x", count), BadCount, {"count": count})
                for name in ["a", "c"] + BAD_NAMES:
                    self.refused(store, ("move", name, count), NoMap, {"name": name})
            for name in ["a", "c"] + BAD_NAMES:
                self.refused(store, ("move", name, 1), NoMap, {"name": name})

    def test_without_beads(self):
        store = Store(1)
        store.define("x", identity(1))
        store.move("x", count=4)
        self.assertEqual([count for made, count in store.history()], [4])


class Deeds(Steps):
    def test_tuples_that_are_no_steps(self):
        for lanes in ALL_LANES:
            store = filled(lanes)
            made = drawn_maps(802, lanes)[0]
            good = {
                "put": ("put", "c", (0, 1)), "take": ("take", "a"), "rename": ("rename", "a", "c"),
                "define": ("define", "c", made), "drop": ("drop", "x"), "move": ("move", "x", 1),
            }
            wrong = [(), ("undo",), ("redo",), ("all_of", []), ("",), (None, "a"), (0, "a", 1), (made, "a", made)]
            for word, step in good.items():
                self.assertEqual(len(step), ITEMS[word])
                wrong += [step[:-1], step + (0,), step[:1], step * 2, (word.upper(),) + step[1:],
                          (word + " ",) + step[1:]]
            # The other errors of the same step do not come first.
            wrong += [("put", ""), ("take",), ("rename", ""), ("define", "a"), ("drop", "", ""), ("move", "")]
            for step in wrong:
                self.refused(store, step, BadDeed)

    def test_the_first_item_decides_on_the_number(self):
        store = filled(2)
        self.refused(store, ("take", "a", (0, 0)), BadDeed)
        self.refused(store, ("drop", "x", 1), BadDeed)
        self.refused(store, ("put", "a"), BadDeed)
        self.refused(store, ("move", "x"), BadDeed)


class DrawnOrder(Steps):
    def test_counts_of_things(self):
        source = numbers(8030)
        for lanes in ALL_LANES:
            store = Store(lanes)
            for turn in range(120):
                name = source.choice(letters(70))
                if name in dict(store.beads()):
                    store.do(("take", name))
                elif len(store) < 40:
                    store.put(name, (source.randrange(lanes), 1000 + turn))
                else:
                    self.refused(store, ("put", name, (0, 1)), Full)
            self.assertLessEqual(len(store), 40)


if __name__ == "__main__":
    unittest.main()
