"""page and read_page: each takes the other back, and other texts are refused with the right row."""

import re
import unittest

from farlanes.errors import BadPage, LaneError
from farlanes.maps import identity, lead, swap
from farlanes.notation import parse_map
from farlanes.pages import page, read_page
from farlanes.store import Store
from tests.models import MOST, drawn_maps, drawn_step, told_store
from tests.samples import FAR, numbers, raised, rich_maps, turned

ALL_LANES = range(1, 7)
NATURAL = "(?:0|[1-9][0-9]{0,29})"
BEAD = re.compile(rf"bead ([a-z]{{1,8}}) ({NATURAL})\.({NATURAL})")
MAP = re.compile(r"map ([a-z]{1,8}) ([^\n]*)")
WORDS = ("identity", "lead", "swap")


def map_of(text, lanes):
    """The map of a text, or None if it is none of these lanes."""
    try:
        made = parse_map(text)
    except LaneError:
        return None
    return made if made.lanes() == lanes else None


def slow_row(text):
    """The row that BadPage has for a text, or None, as the document has it."""
    rows = re.findall(r"[^\n]*\n|[^\n]+$", text) or [""]
    maps, places, beads = [], [], []
    for number, row in enumerate(rows):
        if not row.endswith("\n"):
            return number
        if number == 0:
            if not re.fullmatch(r"lanes [1-6]\n", row):
                return 0
            lanes = int(row[6])
            continue
        bead, made = BEAD.fullmatch(row[:-1]), MAP.fullmatch(row[:-1])
        if made and not beads:
            name = made[1]
            if maps and name <= maps[-1] or name in WORDS or map_of(made[2], lanes) is None or len(maps) == 12:
                return number
            maps.append(name)
        elif bead:
            name, place = bead[1], (int(bead[2]), int(bead[3]))
            if beads and name <= beads[-1] or name in WORDS or name in maps or place in places:
                return number
            if place[0] >= lanes or len(beads) == 40:
                return number
            beads.append(name)
            places.append(place)
        else:
            return number
    return None


def stocked(source, lanes):
    """A store with some beads and maps."""
    store = Store(lanes)
    made = drawn_maps(950 + source.randrange(5), lanes) + rich_maps(951, lanes, 2)
    for turn in range(source.randint(0, 25)):
        raised(store.do, drawn_step(source, lanes, made))
    return store


def changed_pages(source, text):
    """The page with rows, words or characters removed, repeated, exchanged, added or moved to the end."""
    found = []
    rows = text.split("\n")[:-1]
    at, other = source.randrange(len(rows)), source.randrange(len(rows))
    swapped = list(rows)
    swapped[at], swapped[other] = swapped[other], swapped[at]
    extra = source.choice(("", " ", "lanes 2", "bead q 0.9", "map q 0", "map q 0 | 0", "bead z 0.0", "x", "# note",
                           "map"))
    lists = [rows[:at] + rows[at + 1:], rows[:at] + [rows[at]] + rows[at:], swapped,
             rows[:at] + rows[at + 1:] + [rows[at]]]
    lists += [rows[:at] + [extra] + rows[at:], rows[:at] + [extra] + rows[at + 1:], rows + [extra], rows[:at]]
    found += ["".join(row + "\n" for row in each) for each in lists]
    for gap in (" ", ""):
        items = text.split(gap) if gap else list(text)
        at, other = source.randrange(len(items)), source.randrange(len(items))
        odd = source.choice(["0", "1", "9", "-1", "01", "a", "Q", "lead", "abcdefghi", "", " ", "\n", ".", "|", "map",
                             "-0"])
        swapped = list(items)
        swapped[at], swapped[other] = swapped[other], swapped[at]
        found += [gap.join(each) for each in (
            items[:at] + items[at + 1:], items[:at] + [odd] + items[at:], items[:at] + [odd] + items[at + 1:], swapped,
            items[:at] + [items[at]] + items[at:],
        )]
    return found + [text[:-1], text + "\n", "\n" + text, text + " ", text[:source.randrange(len(text))]]


class Pages(unittest.TestCase):
    def check(self, text):
        """The store or the row is the right one; tells the row."""
        row = slow_row(text)
        if row is None:
            store = read_page(text)
            self.assertIsInstance(store, Store)
            self.assertEqual(page(store), text)
            self.assertEqual((store.steps(), store.history()), ((0, 0), []))
        else:
            self.assertEqual(raised(read_page, text), (BadPage, {"row": row}), text)
        return row


class BothWays(Pages):
    def test_drawn_stores(self):
        for lanes in ALL_LANES:
            source = numbers(9500 + lanes)
            for turn in range(40):
                store = stocked(source, lanes)
                before = told_store(store)
                text = page(store)
                self.assertIsInstance(text, str)
                self.assertIsNone(self.check(text))
                read = read_page(text)
                self.assertTrue(read == store)
                self.assertEqual(told_store(store), before)
                for key in ("beads", "maps", "lanes", "at", "repr"):
                    self.assertEqual(told_store(read)[key], before[key])

    def test_some_pages(self):
        for lanes in ALL_LANES:
            self.assertEqual(page(Store(lanes)), f"lanes {lanes}\n")
            self.assertTrue(read_page(f"lanes {lanes}\n") == Store(lanes))
        store = Store(2)
        store.all_of([("define", "y", swap(2, (0, 0), (1, 0))), ("put", "b", (1, 7)), ("define", "x", identity(2)),
                      ("put", "aa", (0, MOST)), ("put", "a", (0, FAR))])
        expected = ["lanes 2", "map x 0 | 0", "map y 0 1.0 | 0 0.0", f"bead a 0.{FAR}", f"bead aa 0.{MOST}",
                    "bead b 1.7", ""]
        self.assertEqual(page(store), "\n".join(expected))

    def test_what_was_read_goes_its_own_way(self):
        text = "lanes 2\nmap x -1 1.0 | 1\nbead a 0.2\n"
        store = read_page(text)
        self.assertEqual(store.steps(), (0, 0))
        self.assertIsNotNone(raised(store.undo))
        self.assertIsNotNone(raised(store.redo))
        store.move("x", count=4)
        self.assertEqual((store.where("a"), store.was("a", 1)), ((1, 1), (0, 2)))
        self.assertTrue(read_page(text) != store)
        store.undo()
        self.assertEqual(page(store), text)
        self.assertIsNotNone(raised(store.undo))

    def test_full_stores(self):
        names = [chr(97 + at // 26) + chr(97 + at % 26) for at in range(54)]
        store = Store(6)
        store.all_of([("put", name, (at % 6, at)) for at, name in enumerate(names[:40])])
        store.all_of([("define", name, turned(6, 0, 9, at)) for at, name in enumerate(names[40:52])])
        text = page(store)
        self.assertTrue(read_page(text) == store)
        self.assertEqual(len(read_page(text)), 40)
        extra = text + "bead zz 0.99\n"
        self.assertEqual(raised(read_page, extra), (BadPage, {"row": 53}))
        rows = text.split("\n")
        rows.insert(13, f"map {names[52]} " + " | ".join(["0"] * 6))
        self.assertEqual(raised(read_page, "\n".join(rows)), (BadPage, {"row": 13}))
        self.check("\n".join(rows))
        self.check(extra)


class Refused(Pages):
    def test_changed_pages(self):
        seen = {}
        for lanes in ALL_LANES:
            source = numbers(9510 + lanes)
            for turn in range(60):
                for text in changed_pages(source, page(stocked(source, lanes))):
                    seen[self.check(text)] = True
        self.assertLessEqual({None, 0, 1, 2, 3, 4, 5}, set(seen))

    def test_texts_without_rows(self):
        self.assertEqual(raised(read_page, ""), (BadPage, {"row": 0}))
        for text in ("\n", "lanes 2", " ", "x", "\n\n", "lanes", "lanes \n", "lanes  2\n", "lanes 2 \n", " lanes 2\n",
                     "Lanes 2\n", "lanes 0\n", "lanes 7\n", "lanes 02\n", "lanes -1\n", "lanes +2\n", "lanes 10\n",
                     "lanes x\n", "lanes 2 3\n", "lane 2\n", "lanes2\n", "bead a 0.0\n", "map x 0\n"):
            self.assertEqual(raised(read_page, text), (BadPage, {"row": 0}), text)

    def test_rows(self):
        head = "lanes 2\nmap m 0 | 0\nmap n -1 1.0 | 1\nbead b 0.1\nbead d 1.0\n"
        self.assertIsNone(self.check(head))
        wrong = ["bead d 0.5", "bead c 0.5", "bead b 0.5", "bead m 0.5", "bead n 0.5", "bead e 0.1", "bead e 1.0",
                 "bead e 2.0", "bead e -1.0", "bead e 0.-1", "bead e 0", "bead e 0.", "bead e 00.1", "bead e 0.01",
                 "bead e 0.1000000000000000000000000000000", "bead E 0.5", "bead  0.5", "bead lead 0.5", "bead e  0.5",
                 "bead swap 0.5", "bead identity 0.5", "bead efghijklm 0.5", "bead e 0.5 ", " bead e 0.5", "bead e",
                 "bead", "", "map z 0 | 0", "map e 0 | 0", "lanes 2", "bead e 0.5 0.6", "Bead e 0.5", "step e 0.5"]
        for row in wrong:
            self.assertEqual(raised(read_page, f"{head}{row}\n"), (BadPage, {"row": 5}), row)
            self.assertEqual(raised(read_page, f"{head}{row}\nrubbish"), (BadPage, {"row": 5}), row)
        for row in ("bead e 0.5", "bead da 0.5", "bead leads 0.5", "bead e 0.999999999999999999999999999999"):
            self.assertIsNone(self.check(f"{head}{row}\n"))
            self.assertEqual(raised(read_page, f"{head}{row}"), (BadPage, {"row": 5}))

    def test_rows_of_maps(self):
        head = "lanes 2\nmap b 0 | 0\n"
        wrong = ["map a 0 | 0", "map b 0 | 0", "map c 0", "map c 0 | 0 | 0", "map c 0 0.0 | 0", "map c 1 | -1", "map c",
                 "map c ", "map c  0 | 0", "map c 0 |0", "map C 0 | 0", "map lead 0 | 0", "map  0 | 0",
                 "map abcdefghi 0 | 0",
                 "map c 0 | 00", "map c -0 | 0", "map c 0 | 0 ", "maps c 0 | 0", "map c 0 | +0", "map c x", "map c 0.0"]
        for row in wrong:
            self.assertEqual(raised(read_page, f"{head}{row}\n"), (BadPage, {"row": 2}), row)
            self.assertEqual(raised(read_page, f"{head}{row}\nbead a 0.0"), (BadPage, {"row": 2}), row)
        self.assertIsNone(self.check(f"{head}map c 0 | 0\nbead a 0.0\n"))

    def test_a_bead_beyond_30_digits(self):
        for lanes in range(2, 7):
            store = Store(lanes)
            store.all_of([("put", "b", (0, 10 ** 30 - 1)), ("put", "a", (0, 0)), ("define", "x", lead(lanes, 1, 0))])
            self.assertTrue(read_page(page(store)) == store)
            store.move("x")
            self.assertEqual(store.where("b"), (0, 10 ** 30))
            self.assertIn(f"bead b 0.{10 ** 30}\n", page(store))
            self.assertEqual(raised(read_page, page(store)), (BadPage, {"row": 3}))
            self.check(page(store))
            store.undo()
            self.assertTrue(read_page(page(store)) == store)


class Calls(unittest.TestCase):
    def test_by_name(self):
        store = read_page(text="lanes 1\nbead a 0.4\n")
        self.assertEqual(page(store=store), "lanes 1\nbead a 0.4\n")
        self.assertEqual(raised(read_page, text="x"), (BadPage, {"row": 0}))


if __name__ == "__main__":
    unittest.main()
