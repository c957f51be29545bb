"""A store over time: undoing, redoing, lists of steps, twins, and what it was like before."""

import unittest

from farlanes.errors import (
    BadCount, BadDeed, BadPlace, Full, Held, NoBead, NoMap, NothingLeft, OtherLanes, Stopped, Taken,
)
from farlanes.maps import LaneMap, identity, lead, swap
from farlanes.store import Store
from farlanes.travel import advance
from tests.models import MOST, NAMES, Model, drawn_maps, drawn_step, told_model, told_store
from tests.samples import FAR, numbers, raised, rich_maps, ringed, told

ALL_LANES = range(1, 7)


def caused(action, *values):
    """The class and the attributes of the error, and those of the one that it was raised from."""
    try:
        action(*values)
    except (ValueError, LookupError) as error:
        return [type(error), vars(error)] + ([type(error.__cause__), vars(error.__cause__)] if error.__cause__ else [])
    return None


def busy(lanes):
    """A store with steps of all sorts, of which two are undone."""
    store = Store(lanes)
    made = drawn_maps(900, lanes)
    store.all_of([("put", "a", (0, 0)), ("put", "b", (lanes - 1, 3)), ("define", "x", made[0])])
    store.move("x", count=3)
    store.do(("rename", "a", "c"))
    store.define("y", made[1])
    store.all_of([("move", "y", -2), ("take", "b"), ("move", "x", 5)])
    store.do(("drop", "x"))
    store.put("d", (0, 99))
    store.undo()
    store.undo()
    return store


class AgainstTheModel(unittest.TestCase):
    def play(self, source, pairs, maps, lanes):
        """Do something to a store and its model; both tell the same."""
        at = source.randrange(len(pairs))
        store, model = pairs[at]
        chance = source.random()
        if chance < 0.12:
            self.assertEqual(caused(store.undo), caused(model.undo))
        elif chance < 0.24:
            self.assertEqual(caused(store.redo), caused(model.redo))
        elif chance < 0.28 and len(pairs) < 4:
            pairs.append((store.twin(), model.twin()))
        elif chance < 0.45:
            steps = [drawn_step(source, lanes, maps) for turn in range(source.choice((0, 1, 2, 2, 3, 5)))]
            self.assertEqual(caused(store.all_of, steps), caused(model.all_of, steps))
        else:
            step = drawn_step(source, lanes, maps)
            self.assertEqual(caused(store.do, step), caused(model.do, step))

    def test_drawn_steps(self):
        for lanes in ALL_LANES:
            source = numbers(9000 + lanes)
            for game in range(12):
                pairs = [(Store(lanes), Model(lanes))]
                maps = drawn_maps(901 + game, lanes)
                for turn in range(70):
                    self.play(source, pairs, maps, lanes)
                    for store, model in pairs:
                        self.assertEqual(told_store(store), told_model(model))
                for one, first in pairs:
                    for other, second in pairs:
                        pairs_told = told_model(first), told_model(second)
                        same = all(pairs_told[0][key] == pairs_told[1][key] for key in ("beads", "maps"))
                        self.assertIs(one == other, same)
                        self.assertIs(one != other, not same)


class UndoAndRedo(unittest.TestCase):
    def test_both_ends(self):
        for lanes in ALL_LANES:
            store = Store(lanes)
            self.assertEqual(caused(store.undo), [NothingLeft, {"word": "NothingLeft"}])
            self.assertEqual(caused(store.redo), [NothingLeft, {"word": "NothingLeft"}])
            store.put("a", (0, 0))
            self.assertEqual(caused(store.redo), [NothingLeft, {"word": "NothingLeft"}])
            self.assertIsNone(store.undo())
            self.assertEqual((store.steps(), store.beads()), ((0, 1), []))
            self.assertEqual(caused(store.undo), [NothingLeft, {"word": "NothingLeft"}])
            self.assertIsNone(store.redo())
            self.assertEqual((store.steps(), store.beads()), ((1, 0), [("a", (0, 0))]))
            self.assertEqual(caused(store.redo), [NothingLeft, {"word": "NothingLeft"}])

    def test_all_the_way_back_and_forth(self):
        for lanes in ALL_LANES:
            store = busy(lanes)
            self.assertEqual(store.steps(), (5, 2))
            seen = []
            while store.steps()[0]:
                seen.append(told_store(store))
                store.undo()
            self.assertTrue(store == Store(lanes))
            self.assertEqual(store.history(), [])
            while seen:
                store.redo()
                self.assertEqual(told_store(store), seen.pop())
            store.redo()
            store.redo()
            self.assertEqual(store.steps(), (7, 0))
            self.assertEqual(store.where("d"), (0, 99))

    def test_a_step_behind_an_undo(self):
        for lanes in ALL_LANES:
            store = busy(lanes)
            store.put("z", (0, 500))
            self.assertEqual(store.steps(), (6, 0))
            self.assertEqual(caused(store.redo)[0], NothingLeft)
            store = busy(lanes)
            store.all_of([])
            self.assertEqual(store.steps(), (6, 0))

    def test_an_error_leaves_what_can_be_redone(self):
        for lanes in ALL_LANES:
            store = busy(lanes)
            before = told_store(store)
            for step in ((), ("take", "nobody"), ("put", "c", (0, 50)), ("move", "x", MOST + 1)):
                self.assertIsNotNone(raised(store.do, step))
                self.assertEqual(raised(store.all_of, [("put", "z", (0, 500)), step]), (Stopped, {"at": 1}))
                self.assertEqual(told_store(store), before)
            store.redo()
            store.redo()
            self.assertEqual(store.where("d"), (0, 99))


class ListsOfSteps(unittest.TestCase):
    def test_no_steps(self):
        for lanes in ALL_LANES:
            store = Store(lanes)
            self.assertIsNone(store.all_of([]))
            self.assertIsNone(store.all_of(()))
            self.assertEqual((store.steps(), store.beads(), store.history()), ((2, 0), [], []))

    def test_good_steps(self):
        for lanes in ALL_LANES:
            made = drawn_maps(910, lanes)[1]
            steps = [("put", "a", (0, 2)), ("define", "x", made), ("move", "x", 2), ("rename", "a", "b"),
                     ("put", "a", (0, FAR)), ("move", "x", -1), ("take", "a"), ("drop", "x")]
            one, other = Store(lanes), Store(lanes)
            self.assertIsNone(one.all_of(steps))
            for step in steps:
                other.do(step)
            self.assertTrue(one == other)
            self.assertEqual((one.steps(), other.steps()), ((1, 0), (8, 0)))
            self.assertEqual(one.where("b"), advance(made, (0, 2)))
            self.assertEqual([count for each, count in one.history()], [2, -1])
            one.undo()
            self.assertEqual((one.beads(), one.history(), one.steps()), ([], [], (0, 1)))
            one.redo()
            self.assertTrue(one == other)
            self.assertEqual(len(one.history()), 2)

    def test_the_first_step_that_raises(self):
        cases = [
            (("put", "b", (0, 0)), Held, {"by": "a", "word": "Held"}),
            (("put", "a", (0, 9)), Taken, {"name": "a", "word": "Taken"}),
            (("put", "b", (6, 0)), BadPlace, {"place": (6, 0), "word": "BadPlace"}),
            (("take", "b"), NoBead, {"name": "b", "word": "NoBead"}),
            (("drop", "a"), NoMap, {"name": "a", "word": "NoMap"}),
            (("define", "m", identity(5)), OtherLanes, {"word": "OtherLanes"}),
            (("move", "x", -MOST - 1), BadCount, {"count": -MOST - 1, "word": "BadCount"}),
            (("jump", "a"), BadDeed, {"word": "BadDeed"}),
            ((), BadDeed, {"word": "BadDeed"}),
        ]
        for wrong, error, values in cases:
            for at in range(2, 5):
                store = Store(6)
                first = [("put", "a", (0, 0)), ("define", "x", identity(6))]
                steps = first + [("move", "x", 1)] * (at - 2) + [wrong, wrong, ("take", "nobody")]
                before = told_store(store)
                kept = list(steps)
                expected = [Stopped, {"at": at, "word": "Stopped"}, error, values]
                self.assertEqual(caused(store.all_of, steps), expected)
                self.assertEqual(caused(store.all_of, tuple(steps)), expected)
                self.assertEqual(told_store(store), before)
                self.assertEqual(steps, kept)

    def test_too_many_things_in_one_list(self):
        store = Store(1)
        steps = [("put", "a" + chr(97 + at // 26) + chr(97 + at % 26), (0, at)) for at in range(41)]
        self.assertEqual(caused(store.all_of, steps), [Stopped, {"at": 40, "word": "Stopped"}, Full, {"word": "Full"}])
        self.assertIsNone(store.all_of(steps[:40]))
        self.assertEqual((len(store), store.steps()), (40, (1, 0)))
        maps = [("define", "b" + chr(97 + at), identity(1)) for at in range(13)]
        self.assertEqual(raised(store.all_of, maps), (Stopped, {"at": 12}))
        self.assertIsNone(store.all_of(maps[:12]))
        self.assertEqual(len(store.maps()), 12)

    def test_a_long_list(self):
        store = Store(2)
        store.all_of([("put", "a", (0, 0)), ("define", "x", lead(2, 1, 0))])
        steps = [("move", "x", 1)] * 1999
        store.all_of(steps)
        self.assertEqual((store.where("a"), len(store.history())), ((0, 1999), 1999))
        store.undo()
        self.assertEqual((store.where("a"), store.history()), ((0, 0), []))


class Twins(unittest.TestCase):
    def test_twins_are_equal_and_independent(self):
        for lanes in ALL_LANES:
            store = busy(lanes)
            twin = store.twin()
            third = twin.twin()
            self.assertIsInstance(twin, Store)
            before = told_store(store)
            for each in (twin, third):
                self.assertTrue(each == store)
                self.assertEqual(told_store(each), before)
            twin.put("q", (0, 77))
            self.assertEqual((twin.steps(), store.steps(), third.steps()), ((6, 0), (5, 2), (5, 2)))
            third.undo()
            third.undo()
            self.assertEqual(told_store(store), before)
            store.redo()
            store.redo()
            self.assertEqual((store.steps(), third.steps(), twin.steps()), ((7, 0), (3, 4), (6, 0)))
            for turn in range(4):
                third.redo()
            self.assertEqual(told_store(third), told_store(store))
            while twin.steps()[0]:
                twin.undo()
            self.assertTrue(twin == Store(lanes))
            self.assertEqual(store.steps(), (7, 0))

    def test_a_twin_of_an_empty_store(self):
        store = Store(3)
        twin = store.twin()
        store.put("a", (0, 0))
        self.assertEqual((len(twin), len(store)), (0, 1))
        twin.put("b", (1, 1))
        self.assertEqual(store.beads(), [("a", (0, 0))])


class History(unittest.TestCase):
    def test_history(self):
        for lanes in ALL_LANES:
            made = drawn_maps(920, lanes)
            store = Store(lanes)
            store.all_of([("define", "x", made[0]), ("define", "y", made[1]), ("put", "a", (0, 0))])
            store.move("x", count=2)
            store.all_of([("move", "y", 0), ("drop", "y"), ("define", "y", made[2]), ("move", "y", -MOST)])
            store.do(("rename", "x", "z"))
            store.do(("drop", "z"))
            pairs = store.history()
            self.assertEqual([count for each, count in pairs], [2, 0, -MOST])
            for (each, count), expected in zip(pairs, (made[0], made[1], made[2])):
                self.assertIsInstance(each, LaneMap)
                self.assertTrue(each == expected)
            self.assertEqual([isinstance(pair, tuple) for pair in pairs], [True] * 3)
            for many in (3, 3, 3, 1, 0):
                self.assertEqual(len(store.history()), many)
                store.undo()
            place = (0, 0)
            for each, count in pairs:
                place = advance(each, place, count=count)
            while store.steps()[1]:
                store.redo()
            self.assertEqual(store.where("a"), place)

    def test_was(self):
        store = Store(2)
        store.put("a", (0, 2))
        store.define("x", lead(2, 0, 1))
        store.move("x", count=4)
        store.do(("rename", "a", "b"))
        store.all_of([("take", "b"), ("put", "a", (0, 7)), ("move", "x", 1)])
        self.assertEqual([store.was("a", back) for back in range(6)], [(0, 6), None, (1, 1), (0, 2), (0, 2), None])
        self.assertEqual([store.was("b", back) for back in range(6)], [None, (1, 1), None, None, None, None])
        self.assertEqual([store.was("x", back) for back in range(6)], [None] * 6)
        self.assertEqual([store.was("", back) for back in range(6)], [None] * 6)
        for wrong in (-1, 6, FAR, -FAR):
            for name in ("a", "nobody", ""):
                self.assertEqual(raised(store.was, name, wrong), (BadCount, {"count": wrong}))
        store.undo()
        store.undo()
        self.assertEqual([store.was("a", back) for back in range(4)], [(1, 1), (0, 2), (0, 2), None])
        self.assertEqual(raised(store.was, "a", 4), (BadCount, {"count": 4}))
        self.assertEqual(raised(Store(1).was, "a", 1), (BadCount, {"count": 1}))
        self.assertIsNone(Store(1).was("a", 0))


class Asked(unittest.TestCase):
    def test_where_and_bead_at(self):
        for lanes in ALL_LANES:
            store = busy(lanes)
            for name in ("a", "x", "y", "", "nobody"):
                self.assertEqual(raised(store.where, name), (NoBead, {"name": name}))
            for place in ((lanes, 0), (-1, 0), (0, -1), (FAR, FAR), (0, -FAR)):
                self.assertEqual(raised(store.bead_at, place), (BadPlace, {"place": place}))
            self.assertEqual(store.bead_at(store.where("c")), "c")
            self.assertIsNone(store.bead_at((0, FAR)))
            for name in ("c", "a", "", "nobody"):
                self.assertEqual(raised(store.lane_map, name), (NoMap, {"name": name}))

    def test_the_lists_are_new(self):
        for lanes in ALL_LANES:
            store = busy(lanes)
            before = told_store(store)
            store.beads().clear()
            store.maps().clear()
            store.history().clear()
            store.lane_map("y").goals().clear()
            for made, count in store.history():
                made.goals().append([])
                made.drifts()[0] = 9
            self.assertEqual(told_store(store), before)

    def test_passed_maps_and_lists_stay(self):
        for lanes in ALL_LANES:
            for made in rich_maps(930, lanes, 3):
                before = told(made)
                steps = [("put", "a", (0, 0)), ("define", "x", made), ("move", "x", 5)]
                store = Store(lanes)
                store.all_of(steps)
                after = told_store(store)
                steps.clear()
                self.assertEqual(told_store(store), after)
                self.assertEqual(told(made), before)
                self.assertTrue(store.lane_map("x") == made)


class FirstTime(unittest.TestCase):
    def test_against_move(self):
        seen = {}
        for lanes in ALL_LANES:
            source = numbers(9400 + lanes)
            for made in rich_maps(940, lanes, 12):
                store = Store(lanes)
                starts = source.sample([(lane, at) for lane in range(lanes) for at in range(9)], 4)
                store.all_of([("put", name, start) for name, start in zip("abcd", starts)] + [("define", "x", made)])
                before = told_store(store)
                for turn in range(12):
                    count, chosen = source.choice((0, 1, 2, 3, 6, 11, MOST)), source.sample("abcd",
                                                                                            source.randint(0, 4))
                    moved = store.twin()
                    moved.move("x", count=count)
                    goals = {name: moved.where(name) for name in chosen}
                    if source.random() < 0.3 and goals:
                        goals[chosen[0]] = (source.randrange(lanes), source.randrange(6))
                    kept = dict(goals)
                    found = store.first_time("x", goals)
                    self.assertEqual((goals, told_store(store)), (kept, before))
                    tried = [k for k in range(25) if self.fits(store, k, goals)]
                    if found is None:
                        self.assertEqual(tried, [])
                    elif found < 25:
                        self.assertEqual(tried[0], found)
                    else:
                        self.assertEqual(tried, [])
                        self.assertTrue(self.fits(store, found, goals))
                    seen[found is None] = True
        self.assertEqual(sorted(seen), [False, True])

    def fits(self, store, count, goals):
        twin = store.twin()
        twin.move("x", count=count)
        return all(twin.where(name) == goals[name] for name in goals)

    def test_great_counts(self):
        store = Store(2)
        store.all_of([("put", "a", (0, 5)), ("define", "x", lead(2, 0, 1))])
        self.assertEqual(store.first_time("x", {"a": (1, FAR)}), FAR + 6)
        self.assertEqual(store.first_time("x", {"a": (1, MOST - 6)}), MOST)
        self.assertEqual(store.first_time("x", {"a": (1, MOST - 5)}), MOST + 1)
        self.assertEqual(raised(store.move, "x", count=MOST + 1), (BadCount, {"count": MOST + 1}))
        self.assertIsNone(store.first_time("x", {"a": (0, 6)}))
        lengths = [101, 103, 107, 109, 113, 127, 131, 137, 139, 149, 151]
        made, starts = ringed(lengths)
        store = Store(1)
        names = [chr(97 + at) for at in range(len(lengths))]
        store.all_of([("put", name, (0, start)) for name, start in zip(names, starts)] + [("define", "x", made)])
        found = store.first_time("x",
                                 {name: (0, start + length - 1) for name, start, length in zip(names, starts, lengths)})
        product = 1
        for length in lengths:
            product *= length
        self.assertEqual(found, product - 1)
        self.assertGreater(found, MOST)

    def test_errors_in_their_order(self):
        for lanes in ALL_LANES:
            store = Store(lanes)
            store.all_of([("put", "b", (0, 0)), ("put", "d", (0, 1)), ("define", "x", swap(lanes, (0, 0), (0, 1)))])
            wrong = (lanes, 0)
            for goals in ({}, {"a": wrong}, {"b": wrong}, {"b": (0, 1)}):
                for name in ("b", "nobody", ""):
                    self.assertEqual(raised(store.first_time, name, goals), (NoMap, {"name": name}))
            cases = [
                ({"c": (0, 0), "b": wrong}, (BadPlace, {"place": wrong})),
                ({"b": (0, 0), "c": wrong}, (NoBead, {"name": "c"})),
                ({"d": wrong, "c": wrong}, (NoBead, {"name": "c"})),
                ({"d": wrong, "b": (0, -1)}, (BadPlace, {"place": (0, -1)})),
                ({"e": wrong, "d": (0, -FAR)}, (BadPlace, {"place": (0, -FAR)})),
                ({"x": (0, 0)}, (NoBead, {"name": "x"})),
                ({"z": (0, 0), "y": (0, 0)}, (NoBead, {"name": "y"})),
                ({"b": (0, 1), "d": (0, 0)}, None),
            ]
            before = told_store(store)
            for goals, error in cases:
                self.assertEqual(raised(store.first_time, "x", goals), error, goals)
            self.assertEqual(told_store(store), before)
            self.assertEqual(store.first_time("x", {}), 0)
            self.assertEqual(store.first_time("x", {"b": (0, 1), "d": (0, 0)}), 1)


class Equality(unittest.TestCase):
    def test_equal_stores(self):
        for lanes in ALL_LANES:
            one, other = Store(lanes), Store(lanes)
            self.assertTrue(one == other)
            one.put("a", (0, 0))
            self.assertFalse(one == other)
            self.assertTrue(one != other)
            other.all_of([("put", "b", (0, 0)), ("rename", "b", "a")])
            self.assertTrue(one == other)
            one.define("x", swap(lanes, (0, 0), (0, 1)))
            self.assertFalse(one == other)
            other.define("x", swap(lanes, (0, 1), (0, 0)))
            self.assertTrue(one == other)
            self.assertFalse(one != other)
            other.do(("rename", "x", "y"))
            self.assertFalse(one == other)
            other.all_of([("drop", "y"), ("define", "x", identity(lanes))])
            self.assertFalse(one == other)

    def test_the_order_of_steps_does_not_matter(self):
        one, other = Store(2), Store(2)
        one.all_of([("put", "a", (0, 0)), ("put", "b", (0, 1)), ("define", "x", identity(2)),
                    ("define", "y", lead(2, 0, 1))])
        other.all_of([("define", "y", lead(2, 0, 1)), ("put", "b", (0, 1)), ("define", "x", identity(2)),
                      ("put", "a", (0, 0))])
        self.assertTrue(one == other)
        self.assertEqual(told_store(one)["beads"], told_store(other)["beads"])

    def test_other_things(self):
        for lanes in ALL_LANES:
            for other in (None, 0, "", [], {}, Store(lanes % 6 + 1), identity(lanes), repr(Store(lanes)), lanes):
                self.assertFalse(Store(lanes) == other)
                self.assertTrue(Store(lanes) != other)

    def test_len_and_repr(self):
        for lanes in ALL_LANES:
            store = Store(lanes)
            for many, name in enumerate(NAMES, start=1):
                store.put(name, (0, many))
                self.assertEqual(len(store), many)
                self.assertEqual(repr(store), f"Store({lanes} lanes, {many} beads, 0 maps)")
            store.define("m", identity(lanes))
            self.assertEqual(repr(store), f"Store({lanes} lanes, {len(NAMES)} beads, 1 maps)")


class Calls(unittest.TestCase):
    def test_by_name(self):
        store = Store(lanes=2)
        store.put(place=(0, 2), bead="a")
        store.define(lane_map=lead(2, 0, 1), name="x")
        store.do(step=("move", "x", 1))
        store.all_of(steps=[("move", "x", 1)])
        store.move(count=2, name="x")
        self.assertEqual(store.where(bead="a"), (1, 1))
        self.assertEqual(store.bead_at(place=(1, 1)), "a")
        self.assertTrue(store.lane_map(name="x") == lead(2, 0, 1))
        self.assertEqual(store.was(steps=1, bead="a"), (0, 0))
        self.assertEqual(store.first_time(goals={"a": (1, 4)}, name="x"), 3)
        with self.assertRaises(TypeError):
            store.move("x", 2)


if __name__ == "__main__":
    unittest.main()
