"""format_map and parse_map: each takes the other back, and what no map has as its text is refused."""

import re
import unittest

from farlanes.errors import BadText, LaneError
from farlanes.maps import LaneMap, identity, lead, swap
from farlanes.notation import format_map, parse_map
from farlanes.travel import power
from tests.samples import FAR, numbers, parts, raised, rich_maps, some_maps, told, turned

ALL_LANES = range(1, 7)
PART = re.compile(r"(0|-?[1-9][0-9]{0,29})( (0|[1-9][0-9]{0,29})\.(0|[1-9][0-9]{0,29}))*")


def expected(text):
    """The error for a text, or None if a map has it, as the document has it."""
    texts = text.split(" | ")
    for at, part in enumerate(texts):
        if not PART.fullmatch(part):
            return (BadText, {"at": at})
    drifts = [int(part.split(" ")[0]) for part in texts]
    goals = [[tuple(map(int, goal.split("."))) for goal in part.split(" ")[1:]] for part in texts]
    try:
        made = LaneMap(drifts, goals)
    except LaneError:
        return (BadText, {"at": len(texts)})
    return None if made.goals() == goals else (BadText, {"at": len(texts)})


def changed_texts(source, text):
    """The text with a word, a part or a sign removed, repeated, inserted or exchanged."""
    found = []
    for gap in (" ", " | ", ".", ""):
        items = text.split(gap) if gap else list(text)
        fresh = items + ["0", "1", "-1", "-", "0.0", "1.0", "9.0", "+1", "00", "x", "", " ", "|", "\n", ".", "-0", "01"]
        at, other = source.randrange(len(items)), source.randrange(len(items))
        extra = source.choice(fresh)
        swapped = list(items)
        swapped[at], swapped[other] = swapped[other], swapped[at]
        found += [items[:at] + items[at + 1:], items[:at] + items[at:at + 1] + items[at:], swapped]
        found += [items[:at] + [extra] + items[at:], items[:at] + [extra] + items[at + 1:], items + [extra]]
        found[-6:] = [gap.join(each) for each in found[-6:]]
    return found


class Texts(unittest.TestCase):
    def check(self, text):
        error = expected(text)
        self.assertEqual(raised(parse_map, text), error, text)
        if error is None:
            made = parse_map(text)
            self.assertIsInstance(made, LaneMap)
            self.assertEqual(format_map(made), text)
        return error


class BothWays(Texts):
    def test_drawn_maps(self):
        for lanes in ALL_LANES:
            for made in some_maps(500, lanes, 60) + rich_maps(500, lanes, 20):
                text = format_map(made)
                self.assertIsInstance(text, str)
                self.assertEqual(text, str(made))
                self.assertTrue(parse_map(text) == made)
                self.assertIsNone(self.check(text))

    def test_some_texts(self):
        self.assertEqual(format_map(identity(1)), "0")
        self.assertEqual(format_map(identity(6)), "0 | 0 | 0 | 0 | 0 | 0")
        self.assertEqual(format_map(swap(2, (0, 1), (1, 0))), "0 0.0 1.0 | 0 0.1")
        self.assertEqual(format_map(power(lead(3, 2, 0), 12))[:14], "12 | 0 | -12 0")
        self.assertEqual(format_map(power(lead(2, 1, 0), 2)), "2 | -2 0.1 0.0")

    def test_long_texts(self):
        for size in (1999, 2000):
            made = turned(1, 0, size)
            self.assertTrue(parse_map(format_map(made)) == made)
            self.assertEqual(len(format_map(made).split(" ")), size + 1)


class Refused(Texts):
    def test_changed_texts(self):
        seen = {}
        for lanes in ALL_LANES:
            source = numbers(5010 + lanes)
            for made in some_maps(501, lanes, 30) + rich_maps(501, lanes, 10):
                for turn in range(3):
                    for text in changed_texts(source, format_map(made)):
                        error = self.check(text)
                        seen[error and error[1]["at"]] = True
        self.assertLessEqual({None, 0, 1, 2, 3, 4, 5, 6}, set(seen))

    def test_bad_parts(self):
        wrong = ["", " ", "x", "+1", "-0", "00", "01", "-01", "--1", "1-", "- 1", "0x1", "1e3", "1_0", "0 ", " 0"]
        wrong += ["0  0.0", "0 0", "0 0.", "0 .0", "0 0.0.0", "0 00.0", "0 0.00", "0 -1.0", "0 0.-1", "0 +0.0", "0 0,0"]
        wrong += ["0\n", "\n0", "0\n0.0", "0 |", "|", "| 0", "0|0", "0 |0", "0| 0", "0 0.0 |", "0 -0.0", "0 1 .0"]
        for bad in wrong:
            for at in range(4):
                for behind in range(2):
                    text = " | ".join(["0"] * at + [bad] + ["0"] * behind)
                    self.check(text)
                    if not bad.startswith("| ") and not bad.endswith(" |"):
                        self.assertEqual(raised(parse_map, text), (BadText, {"at": at}), text)

    def test_an_empty_text(self):
        self.assertEqual(raised(parse_map, ""), (BadText, {"at": 0}))
        self.assertEqual(raised(parse_map, "\n"), (BadText, {"at": 0}))
        self.assertEqual(raised(parse_map, " | "), (BadText, {"at": 0}))
        self.assertEqual(raised(parse_map, "0 | "), (BadText, {"at": 1}))

    def test_long_numbers(self):
        most, beyond = "9" * 30, "1" + "0" * 30
        for number, at in ((most, 2), (beyond, 0), ("9" * 5000, 0)):
            for text in (f"{number} | 0", f"-{number} | 0", f"0 {number}.0 | 0", f"0 0.{number} | 0"):
                self.assertEqual(raised(parse_map, text), (BadText, {"at": at}), text)
        self.assertEqual(raised(parse_map, f"0 | {most} | {beyond}"), (BadText, {"at": 2}))
        self.assertEqual(raised(parse_map, f"-{most} | {most}"), (BadText, {"at": 2}))

    def test_numbers_of_parts(self):
        for many in range(1, 12):
            expected_error = None if many <= 6 else (BadText, {"at": many})
            self.assertEqual(raised(parse_map, " | ".join(["0"] * many)), expected_error)

    def test_superfluous_goals(self):
        for lanes in ALL_LANES:
            source = numbers(5020 + lanes)
            for turn in range(30):
                drifts, goals = parts(source, lanes)
                made = LaneMap(drifts, goals)
                rows = [list(row) for row in made.goals()]
                lane = source.randrange(lanes)
                rows[lane].append(made.goal((lane, len(rows[lane]))))
                text = " | ".join(
                    " ".join([str(drift)] + [f"{there}.{at}" for there, at in row]) for drift, row in zip(drifts, rows)
                )
                self.assertEqual(raised(parse_map, text), (BadText, {"at": lanes}))
        self.assertEqual(raised(parse_map, "0 0.0"), (BadText, {"at": 1}))

    def test_no_bijections(self):
        for text in ("1", "-1", "1 | -1", "0 0.1", "0 0.1 0.1", "0 1.0", "0 1.0 | 0", "1 | 1", "-1 1.0 | 2"):
            self.assertEqual(raised(parse_map, text), (BadText, {"at": text.count("|") + 1}))

    def test_numbers_of_goals(self):
        for size in (1999, 2000, 2001):
            turn = "0 " + " ".join(f"0.{(at + 1) % size}" for at in range(size))
            plain = "0 " + " ".join(f"0.{at}" for at in range(size))
            for rest in ("", " | 0"):
                error = None if size <= 2000 else (BadText, {"at": 1 + len(rest) // 4})
                self.assertEqual(raised(parse_map, turn + rest), error)
                self.assertEqual(raised(parse_map, plain + rest), (BadText, {"at": 1 + len(rest) // 4}))
            self.assertEqual(raised(parse_map, turn + " | x"), (BadText, {"at": 1}))


class Calls(unittest.TestCase):
    def test_by_name(self):
        self.assertEqual(format_map(lane_map=lead(2, 0, 1)), "-1 1.0 | 1")
        self.assertTrue(parse_map(text="-1 1.0 | 1") == lead(2, 0, 1))
        self.assertEqual(raised(parse_map, text="01"), (BadText, {"at": 0}))

    def test_nothing_changes(self):
        for lanes in ALL_LANES:
            for made in rich_maps(503, lanes, 4):
                before = told(made)
                text = format_map(made)
                read = parse_map(text)
                for row in read.goals():
                    row.append((0, FAR))
                self.assertEqual(told(read), before)
                self.assertEqual(told(made), before)
                self.assertEqual(told(parse_map(text)), before)


if __name__ == "__main__":
    unittest.main()
