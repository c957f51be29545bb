"""root and is_no_root, against powers and a literal reading of the document."""

import math
import unittest

from farlanes.algebra import compose
from farlanes.errors import BadDegree
from farlanes.maps import LaneMap, identity, lead, swap
from farlanes.roots import is_no_root, root
from farlanes.travel import power
from tests.samples import (
    FAR, carried, numbers, outset, raised, rich_maps, ringed, shuffled, slow_finite, slow_roads, told, turned, wired,
    with_cycles,
)

ALL_LANES = range(1, 7)
DEGREES = range(2, 13)
WRONG_DEGREES = (0, 1, 13, -1, -2, -12, 10 ** 18, FAR, -FAR)


def sums_of(sizes, most):
    """All sums up to the given one, by adding one size after the other."""
    found, fresh = {0}, {0}
    while fresh:
        fresh = {total + size for total in fresh for size in sizes if total + size <= most} - found
        found |= fresh
    return found


def fits(made, rows, degree, own):
    """Tell whether the candidate for a road fits, as the document has it."""
    drifts = made.drifts()
    lane, at = rows[own][0]
    step = -drifts[lane]
    part = step // degree
    candidate = [row for row in rows if row[0][0] == lane and (row[0][1] - at + part) % step == 0][0]
    shift = (candidate[0][1] - at + part) // step
    sink = rows[own][-1][0]
    if candidate[-1][0] != sink:
        return False
    return outset(made, candidate) - outset(made, rows[own]) + drifts[sink] * shift == drifts[sink] // degree


def slow_papers(made, degree):
    """All root obstructions, in the order in which they are checked."""
    found = [("drift", lane) for lane, drift in enumerate(made.drifts()) if drift % degree]
    if not found:
        rows = slow_roads(made)
        found += [("road", own) for own in range(len(rows)) if not fits(made, rows, degree, own)]
    lengths = [len(orbit) for orbit in slow_finite(made) if len(orbit) > 1]
    for length in sorted(set(lengths)):
        sizes = [size for size in range(1, degree + 1) if math.gcd(size * length, degree) == size]
        if lengths.count(length) not in sums_of(sizes, lengths.count(length)):
            found.append(("cycles", length))
    return found


def exchanged(source, made):
    """The map with the images of two places exchanged."""
    lanes = made.lanes()
    places = [(lane, source.randrange(bound + 3)) for lane, bound in enumerate(made.bounds())]
    places += [(lane, source.randrange(bound + 3)) for lane, bound in enumerate(made.bounds())]
    return compose(made, swap(lanes, *source.sample(places, 2)))


class Checked(unittest.TestCase):
    def check(self, made, degree):
        """The root has the right power, or the first obstruction is returned; tells which."""
        before = told(made)
        result = root(made, degree)
        papers = slow_papers(made, degree)
        self.assertIsInstance(result, tuple)
        self.assertEqual(len(result), 2)
        if papers:
            self.assertEqual(result, papers[0])
        else:
            self.assertEqual(result[0], "root")
            self.assertIsInstance(result[1], LaneMap)
            self.assertTrue(power(result[1], degree) == made)
        self.assertEqual(told(made), before)
        return result[0]


class Roots(Checked):
    def test_powers(self):
        for lanes in ALL_LANES:
            for at, made in enumerate(rich_maps(300, lanes, 12)):
                for degree in DEGREES:
                    if at < 4 or degree < 5:
                        self.assertEqual(self.check(power(made, degree), degree), "root")

    def test_powers_with_two_places_exchanged(self):
        seen = {}
        for lanes in ALL_LANES:
            source = numbers(3010 + lanes)
            for made in rich_maps(301, lanes, 6, 4):
                for degree in DEGREES:
                    seen[self.check(exchanged(source, power(made, degree)), degree)] = True
        self.assertEqual(sorted(seen), ["cycles", "road", "root"])

    def test_other_maps(self):
        seen = {}
        for lanes in ALL_LANES:
            for made in rich_maps(302, lanes, 12):
                for degree in DEGREES:
                    seen[self.check(made, degree)] = True
        self.assertLessEqual({"cycles", "drift", "root"}, set(seen))

    def test_cycles_of_all_numbers_and_lengths(self):
        for length in range(2, 14):
            for many in range(1, 14):
                made = ringed([length] * many)[0]
                for degree in DEGREES:
                    self.check(made, degree)

    def test_several_lengths_over_several_lanes(self):
        for lanes in ALL_LANES:
            source = numbers(3030 + lanes)
            for turn in range(12):
                lengths = [source.choice((2, 2, 2, 3, 3, 4, 6)) for each in range(source.randint(2, 9))]
                made = with_cycles(source, identity(lanes), lengths)
                for degree in DEGREES:
                    self.check(made, degree)

    def test_roads_with_the_drifts_of_a_power(self):
        seen = {}
        for lanes in range(2, 7):
            source = numbers(3040 + lanes)
            for turn in range(15):
                wires = [(0, source.randrange(1, lanes), source.randint(0, 1)) for wire in range(6)]
                made = wired(lanes, wires)
                for degree in (2, 3, 6):
                    seen[self.check(made, degree)] = True
        self.assertIn("road", seen)

    def test_some_maps(self):
        for lanes in ALL_LANES:
            for degree in DEGREES:
                self.assertEqual(root(identity(lanes), degree)[0], "root")
                turned_once = turned(lanes, lanes - 1, 13)
                self.assertTrue(power(root(turned_once, degree)[1], degree) == turned_once)
        for lanes in range(2, 7):
            for degree in DEGREES:
                self.assertEqual(root(lead(lanes, lanes - 1, lanes - 2), degree), ("drift", lanes - 2))
                given = power(lead(lanes, 0, lanes - 1), degree)
                self.assertTrue(root(given, degree)[1] == lead(lanes, 0, lanes - 1))

    def test_the_first_kind_comes_first(self):
        both = compose(power(lead(2, 0, 1), 3), swap(2, (0, 50), (0, 51)))
        self.assertEqual(root(both, 2)[0], "drift")
        ring = with_cycles(numbers(3), wired(2, [(0, 1, 1), (0, 1, 0)]), [2])
        self.assertEqual(slow_papers(ring, 2)[0][0], "road")
        self.assertEqual(slow_papers(ring, 2)[-1], ("cycles", 2))
        self.assertEqual(root(ring, 2), slow_papers(ring, 2)[0])


class Widths(Checked):
    def test_a_lead_beside_a_swap(self):
        for lanes in range(2, 7):
            last = lanes - 1
            for degree in DEGREES:
                many = 390 // degree * degree
                for one, other in (((0, 398), (0, 399)), ((0, 0), (0, 399)), ((last, 2), (last, 3)),
                                   ((0, 5), (last, 6))):
                    made = compose(swap(lanes, one, other), power(lead(lanes, 0, last), many))
                    self.assertIn(len(made), range(380, 401))
                    self.check(made, degree)

    def test_powers_of_a_lead_and_a_swap(self):
        for lanes in range(2, 7):
            last = lanes - 1
            for degree in DEGREES:
                step = compose(lead(lanes, 0, last), swap(lanes, (0, 1), (last, 2)))
                many, made = 1, power(step, degree)
                while len(power(step, (many + 1) * degree)) <= 400:
                    many += 1
                made = power(step, many * degree)
                self.assertGreater(len(made), 370)
                self.assertEqual(self.check(made, degree), "root")

    def test_beside_a_swap_on_a_lane_of_its_own(self):
        for lanes in range(3, 7):
            for degree in DEGREES:
                many = 300 // degree * degree
                made = compose(power(lead(lanes, 0, 1), many), swap(lanes, (2, 10), (2, 399 - many)))
                self.assertEqual(len(made), 400)
                self.assertEqual(self.check(made, degree), "root" if degree % 2 else "cycles")

    def test_wide_maps(self):
        for lanes in ALL_LANES:
            self.assertEqual(self.check(turned(lanes, 0, 400), 3), "root")
            self.assertEqual(root(turned(lanes, 0, 1999), 12)[0], "root")
        for degree in (2, 4, 5, 8, 10):
            found = root(power(lead(2, 0, 1), 2000), degree)
            self.assertTrue(found[1] == power(lead(2, 0, 1), 2000 // degree))
        for degree in DEGREES:
            step = compose(carried(2, 0, 1, 100), swap(2, (0, 0), (0, 1900 - 100 * degree)))
            given = power(step, degree)
            self.assertGreater(len(given), 1800)
            self.assertTrue(root(given, degree)[1] == step)


class Papers(unittest.TestCase):
    def check_papers(self, made, degree):
        right = slow_papers(made, degree)
        many = len(slow_roads(made))
        lengths = [len(orbit) for orbit in slow_finite(made)]
        tried = [("drift", lane) for lane in range(-3, made.lanes() + 3)]
        tried += [("road", number) for number in range(-3, many + 3)]
        tried += [("cycles", length) for length in range(-3, max(lengths + [1]) + 3)]
        tried += [(word, number) for word in ("drift", "road", "cycles") for number in (FAR, -FAR)]
        tried += [(word, number) for word in ("", "root", "cycle", "roads", "Drift") for number in (-1, 0, 1, 2, 3)]
        for paper in tried:
            self.assertIs(is_no_root(made, degree, paper), paper in right, (paper, str(made), degree))

    def test_all_papers(self):
        for lanes in ALL_LANES:
            source = numbers(3100 + lanes)
            for made in rich_maps(310, lanes, 5, 4):
                before = told(made)
                for degree in DEGREES:
                    self.check_papers(made, degree)
                    self.check_papers(exchanged(source, power(made, degree)), degree)
                self.assertEqual(told(made), before)

    def test_cycles_do_not_depend_on_what_comes_first(self):
        both = compose(power(lead(2, 0, 1), 3), swap(2, (0, 50), (0, 51)))
        ring = with_cycles(numbers(4), carried(2, 0, 1, 3), [2])
        self.assertIs(is_no_root(ring, 2, ("cycles", 2)), True)
        self.assertIs(is_no_root(ring, 2, ("drift", 0)), True)
        self.check_papers(both, 2)
        self.check_papers(ring, 2)

    def test_roads_do_not_depend_on_the_least_one(self):
        made = wired(3, [(0, 1, 1), (0, 1, 0), (0, 2, 0), (0, 2, 1)])
        wrong = [paper for paper in slow_papers(made, 2) if paper[0] == "road"]
        self.assertGreater(len(wrong), 1)
        for paper in wrong:
            self.assertIs(is_no_root(made, 2, paper), True)

    def test_roads_ask_that_the_degree_divides_all_drifts(self):
        made = wired(4, [(0, 2, 1), (0, 2, 0), (1, 3, 0)])
        self.assertEqual(slow_papers(made, 2), [("drift", 1), ("drift", 3)])
        self.check_papers(made, 2)


class Degrees(unittest.TestCase):
    def test_degrees_out_of_range(self):
        for lanes in ALL_LANES:
            for made in rich_maps(320, lanes, 3):
                for degree in WRONG_DEGREES:
                    self.assertEqual(raised(root, made, degree), (BadDegree, {"degree": degree}))
                    for paper in (("drift", 0), ("road", -1), ("cycles", 2), ("other", FAR)):
                        error = raised(is_no_root, made, degree, paper)
                        self.assertEqual(error, (BadDegree, {"degree": degree}))
        self.assertEqual(raised(root, turned(1, 0, 2000), 13), (BadDegree, {"degree": 13}))


class Calls(unittest.TestCase):
    def test_by_name(self):
        given = power(lead(2, 0, 1), 2)
        self.assertTrue(root(degree=2, lane_map=given)[1] == lead(2, 0, 1))
        self.assertIs(is_no_root(paper=("drift", 0), degree=3, lane_map=given), True)
        self.assertEqual(raised(root, degree=1, lane_map=given), (BadDegree, {"degree": 1}))

    def test_equal_calls_have_equal_results(self):
        for lanes in ALL_LANES:
            source = numbers(3300 + lanes)
            made = with_cycles(source, shuffled(source, lanes, 2), [2, 2, 3, 3])
            for degree in DEGREES:
                self.assertTrue(root(made, degree) == root(made, degree))


if __name__ == "__main__":
    unittest.main()
