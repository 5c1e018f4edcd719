"""The calls crossing and crossings, and the promise 2."""

import itertools
import math
import random
import unittest
from fractions import Fraction

from helper import EXAMPLE, HUGE, clear, crossing, crossings, flat, load, move, run, run_behind

FAR = 1000000
# Its starboard end lies in the west, its port end in the east: north of it is left of it.
EASTWARD = load("line E 0 0 8 0")


def line_text(starboard_end, port_end, called="L"):
    return "line " + called + " " + " ".join(map(str, starboard_end + port_end))


class Crossing(unittest.TestCase):
    def given(self, a, b, before=EASTWARD):
        return run(before, crossing(0, a, b))[1]

    def test_example(self):
        self.assertEqual(self.given((0, -9), (0, -1), load(EXAMPLE)), [1, 1, 2, 1, 2])
        self.assertEqual(self.given((0, -1), (0, -9), load(EXAMPLE)), [2, 1, 2, 1, 2])

    def test_onward(self):
        self.assertEqual(self.given((4, 3), (4, -3)), [1, 1, 2, 1, 2])
        self.assertEqual(self.given((2, 1), (2, -3)), [1, 1, 4, 1, 4])
        self.assertEqual(self.given((1, 6), (4, -3)), [1, 2, 3, 3, 8])
        self.assertEqual(self.given((0, 5), (7, -2)), [1, 5, 7, 5, 8])

    def test_back(self):
        self.assertEqual(self.given((4, -3), (4, 3)), [2, 1, 2, 1, 2])
        self.assertEqual(self.given((2, -3), (2, 1)), [2, 3, 4, 1, 4])
        self.assertEqual(self.given((4, -3), (1, 6)), [2, 1, 3, 3, 8])

    def test_stays_on_one_side(self):
        for a, b in (((4, 3), (5, 1)), ((4, -3), (5, -1)), ((1, 1), (9, 1)), ((1, -1), (9, -1)), ((4, 9), (4, 1))):
            self.assertEqual([self.given(a, b), self.given(b, a)], [[0], [0]])

    def test_begins_in_line(self):
        self.assertEqual(self.given((4, 0), (4, -3)), [1, 0, 1, 1, 2])
        self.assertEqual(self.given((4, 0), (99, -3)), [1, 0, 1, 1, 2])
        self.assertEqual(self.given((4, 0), (4, 3)), [0])

    def test_ends_in_line(self):
        self.assertEqual(self.given((4, -3), (4, 0)), [2, 1, 1, 1, 2])
        self.assertEqual(self.given((-9, -3), (6, 0)), [2, 1, 1, 3, 4])
        self.assertEqual(self.given((4, 3), (4, 0)), [0])

    def test_along_the_line(self):
        for a, b in (((0, 0), (8, 0)), ((2, 0), (3, 0)), ((-5, 0), (20, 0)), ((-5, 0), (0, 0)), ((8, 0), (9, 0)), ((-5, 0), (-3, 0))):
            self.assertEqual([self.given(a, b), self.given(b, a)], [[0], [0]])

    def test_at_the_lines_ends(self):
        self.assertEqual(self.given((0, 1), (0, -1)), [1, 1, 2, 0, 1])
        self.assertEqual(self.given((8, 1), (8, -1)), [1, 1, 2, 1, 1])
        self.assertEqual(self.given((-1, -1), (1, 1)), [2, 1, 2, 0, 1])
        self.assertEqual(self.given((9, -3), (7, 3)), [2, 1, 2, 1, 1])
        self.assertEqual(self.given((0, 0), (0, -1)), [1, 0, 1, 0, 1])
        self.assertEqual(self.given((8, 0), (8, -1)), [1, 0, 1, 1, 1])
        self.assertEqual(self.given((0, -1), (0, 0)), [2, 1, 1, 0, 1])
        self.assertEqual(self.given((8, -1), (8, 0)), [2, 1, 1, 1, 1])
        self.assertEqual([self.given((0, 0), (0, 1)), self.given((8, 0), (8, 1)), self.given((0, 1), (0, 0))], [[0]] * 3)

    def test_past_the_lines_ends(self):
        for a, b in (((-1, 1), (-1, -1)), ((9, 1), (9, -1)), ((0, 1), (-1, -1)), ((8, 1), (9, -1)), ((-1, 0), (-1, -1)),
                     ((9, 0), (9, -1)), ((9, 0), (4, -4)), ((-1, 0), (4, -4)), ((20, 3), (10, -3))):
            self.assertEqual([self.given(a, b), self.given(b, a)], [[0], [0]], (a, b))

    def test_past_the_ends_by_very_little(self):
        before = load(line_text((-FAR, 0), (0, 0)))
        self.assertEqual(self.given((-FAR, 1), (FAR, -1), before), [1, 1, 2, 1, 1])
        self.assertEqual(self.given((-FAR + 1, 1), (FAR, -1), before), [0])
        self.assertEqual(self.given((-FAR, 1), (FAR - 1, -1), before), [1, 1, 2, 2 * FAR - 1, 2 * FAR])

    def test_a_single_place(self):
        for place in ((4, 0), (0, 0), (8, 0), (4, 3), (4, -3), (-1, 0), (9, 0)):
            self.assertEqual(self.given(place, place), [0])

    def test_the_other_way_round(self):
        """The ends changed: what was onward is back, and what is in line is on the other side."""
        before = load("line W 8 0 0 0")
        self.assertEqual(self.given((2, 1), (2, -3), before), [2, 1, 4, 3, 4])
        self.assertEqual(self.given((2, -3), (2, 1), before), [1, 3, 4, 3, 4])
        self.assertEqual(self.given((4, 0), (4, -3), before), [0])
        self.assertEqual(self.given((4, 0), (4, 3), before), [1, 0, 1, 1, 2])
        self.assertEqual(self.given((4, 3), (4, 0), before), [2, 1, 1, 1, 2])
        self.assertEqual(self.given((0, 1), (0, -1), before), [2, 1, 2, 1, 1])

    def test_upright_and_slanting_lines(self):
        upright = load("line U 5 -5 5 5")
        self.assertEqual(self.given((0, 0), (10, 0), upright), [1, 1, 2, 1, 2])
        self.assertEqual(self.given((10, 4), (0, 4), upright), [2, 1, 2, 9, 10])
        self.assertEqual(self.given((0, 6), (10, 6), upright), [0])
        slanting = load("line D 0 0 6 6")
        self.assertEqual(self.given((0, 6), (6, 0), slanting), [1, 1, 2, 1, 2])
        self.assertEqual(self.given((3, 3), (4, 0), slanting), [1, 0, 1, 1, 2])
        self.assertEqual(self.given((5, 0), (0, 5), slanting), [2, 1, 2, 5, 12])
        self.assertEqual(self.given((7, 0), (7, 7), slanting), [0])
        self.assertEqual(self.given((6, 0), (6, 6), slanting), [2, 1, 1, 1, 1])

    def test_largest_coordinates(self):
        before = load(line_text((-FAR, -FAR), (FAR, FAR)))
        self.assertEqual(self.given((-FAR, FAR), (FAR, -FAR), before), [1, 1, 2, 1, 2])
        self.assertEqual(self.given((FAR, -FAR), (-FAR, FAR), before), [2, 1, 2, 1, 2])
        self.assertEqual(self.given((-FAR, FAR), (FAR, -FAR + 1), before), [1, 2 * FAR, 4 * FAR - 1, 2 * FAR, 4 * FAR - 1])
        self.assertEqual(self.given((FAR, FAR - 1), (FAR - 1, FAR), before), [2, 1, 2, 4 * FAR - 1, 4 * FAR])
        self.assertEqual(self.given((FAR, FAR), (FAR, -FAR), before), [1, 0, 1, 1, 1])
        self.assertEqual(self.given((FAR, -FAR), (-FAR, -FAR), before), [2, 1, 1, 0, 1])

    def test_the_line_that_is_asked_for(self):
        before = load("line a 0 0 8 0\nline b 0 5 8 5\nline c 8 0 0 0")
        way = ((2, 1), (2, -3))
        self.assertEqual(run(before, *[crossing(i, *way) for i in range(3)])[1:], [[1, 1, 4, 1, 4], [0], [2, 1, 4, 3, 4]])

    def test_lands_and_marks_are_in_no_ones_way(self):
        before = load("line E 0 0 8 0\nmark A 20 20\nland L 3 -2 5 -2 5 2 3 2")
        self.assertEqual(run(before, clear((4, 3), (4, -3)), crossing(0, (4, 3), (4, -3)))[1:], [[1, 0], [1, 1, 2, 1, 2]])

    def test_out_of_range(self):
        for number in (FAR + 1, -FAR - 1, HUGE, -HUGE):
            for k in range(4):
                numbers = [4, 3, 4, -3]
                numbers[k] = number
                for i in (0, 1, -1, HUGE):
                    self.assertEqual(run(EASTWARD, [10, i] + numbers)[1], [-1])
                self.assertEqual(run([10, 0] + numbers), [[-1]])

    def test_no_such_line(self):
        for i in (-1, 1, 2, HUGE, -HUGE):
            self.assertEqual(run(load("line E 0 0 8 0\nmark A 0 0\nmark B 1 1"), crossing(i, (4, 3), (4, -3)))[1], [-2])
            self.assertEqual(run(EASTWARD, crossing(i, (FAR, -FAR), (-FAR, FAR)))[1], [-2])
        self.assertEqual(run(crossing(0, (4, 3), (4, -3))), [[-2]])


class Crossings(unittest.TestCase):
    def given(self, *places):
        return run(EASTWARD, crossings(0, places))[1]

    def test_none(self):
        self.assertEqual(self.given((4, 3), (5, 3), (9, 9)), [0])
        self.assertEqual(self.given((4, 3), (4, 3)), [0])
        self.assertEqual(self.given((0, 0), (8, 0), (4, 0), (4, 0), (4, 5)), [0])

    def test_onward_and_back(self):
        self.assertEqual(self.given((4, 3), (4, -3)), [1, 0, 1])
        self.assertEqual(self.given((4, -3), (4, 3)), [1, 0, 2])
        self.assertEqual(self.given((4, 3), (4, -3), (4, 3), (4, 2), (4, -2)), [3, 0, 1, 1, 2, 3, 1])
        self.assertEqual(self.given((9, 1), (9, -1), (7, 1), (7, -1)), [2, 1, 2, 2, 1])

    def test_a_place_in_line_counts_once(self):
        self.assertEqual(self.given((4, 3), (4, 0), (4, -3)), [1, 1, 1])
        self.assertEqual(self.given((4, -3), (4, 0), (4, 3)), [1, 0, 2])
        self.assertEqual(self.given((4, -3), (4, 0), (4, -3)), [2, 0, 2, 1, 1])
        self.assertEqual(self.given((4, 3), (4, 0), (4, 3)), [0])
        self.assertEqual(self.given((4, 3), (4, 0), (6, 0), (6, -3)), [1, 2, 1])
        self.assertEqual(self.given((4, 3), (4, 0), (10, 0), (10, -3)), [0])

    def test_the_way_back_to_the_first_place_is_not_sailed(self):
        self.assertEqual(self.given((4, 3), (20, 3), (20, -3), (4, -3)), [0])

    def test_60_numbers(self):
        row = [(4, 3 if k % 2 == 0 else -3) for k in range(30)]
        self.assertEqual(len(flat(row)), 60)
        self.assertEqual(self.given(*row), [29] + flat([(k, 1 + k % 2) for k in range(29)]))
        self.assertEqual(self.given(*[(4, 3)] * 29, (4, -1)), [1, 28, 1])

    def test_rows_that_are_none(self):
        for numbers in ([], [0], [4, 3], [4, 3, 4], [4, 3, 4, -3, 4], [0] * 59, [FAR + 1, 0], [HUGE]):
            for i in (0, 1, -1, HUGE):
                row = [11, i, len(numbers)] + numbers
                self.assertEqual(run(EASTWARD, row)[1], [-1], row)
                self.assertEqual(run(row), [[-1]])

    def test_places_out_of_range(self):
        for count in (4, 6, 60):
            for k in (0, 1, 2, 3, count - 2, count - 1):
                for number in (FAR + 1, -FAR - 1, HUGE, -HUGE):
                    numbers = [4] * count
                    numbers[k] = number
                    for i in (0, 1):
                        self.assertEqual(run(EASTWARD, [11, i, count] + numbers)[1], [-1])
        self.assertEqual(self.given((FAR, FAR), (-FAR, -FAR), (FAR, FAR)), [2, 0, 1, 1, 2])

    def test_no_such_line(self):
        for i in (-1, 1, 2, HUGE, -HUGE):
            self.assertEqual(run(EASTWARD, crossings(i, [(4, 3), (4, -3)]))[1], [-2])
        self.assertEqual(run(crossings(0, [(4, 3), (4, -3)])), [[-2]])

    def test_the_line_that_is_asked_for(self):
        before = load("line a 0 0 8 0\nline b 0 5 8 5\nline c 8 0 0 0")
        row = [(2, 6), (2, 1), (2, -3), (2, 9)]
        given = run(before, *[crossings(i, row) for i in range(3)])[1:]
        self.assertEqual(given, [[2, 1, 1, 2, 2], [2, 0, 1, 2, 2], [2, 1, 2, 2, 1]])


def told_crossing(s, p, a, b):
    """By how far each end lies off the line and along it: another road than the program's."""
    ex, ey = p[0] - s[0], p[1] - s[1]
    off = [(q[1] - s[1]) * ex - (q[0] - s[0]) * ey for q in (a, b)]
    along = [Fraction((q[0] - s[0]) * ex + (q[1] - s[1]) * ey, ex * ex + ey * ey) for q in (a, b)]
    if off[0] >= 0 > off[1]:
        sense = 1
    elif off[0] < 0 <= off[1]:
        sense = 2
    else:
        return [0]
    way = Fraction(off[0], off[0] - off[1])
    line = along[0] + way * (along[1] - along[0])
    if line < 0 or line > 1:
        return [0]
    return [sense, way.numerator, way.denominator, line.numerator, line.denominator]


def told_crossings(s, p, row):
    told = [(k, told_crossing(s, p, a, b)[0]) for k, (a, b) in enumerate(zip(row, row[1:]))]
    told = [pair for pair in told if pair[1] != 0]
    return [len(told)] + flat(told)


class ByAnotherRoad(unittest.TestCase):
    def check(self, s, p, ways, rows):
        before = load(line_text(s, p))
        for (a, b), given in zip(ways, run_behind(before, [crossing(0, a, b) for a, b in ways])):
            self.assertEqual(given, told_crossing(s, p, a, b), (s, p, a, b))
            self.check_form(given)
        for row, given in zip(rows, run_behind(before, [crossings(0, row) for row in rows])):
            self.assertEqual(given, told_crossings(s, p, row), (s, p, row))

    def check_form(self, given):
        if given == [0]:
            return
        self.assertEqual(len(given), 5)
        for upper, lower in (given[1:3], given[3:5]):
            self.assertGreaterEqual(lower, 1)
            self.assertTrue(0 <= upper <= lower)
            self.assertEqual(math.gcd(upper, lower), 1)

    def test_small_water(self):
        places = [(x, y) for x in range(-1, 4) for y in range(-1, 4)]
        ways = list(itertools.product(places, repeat=2))
        chance = random.Random(31)
        for s, p in (((0, 0), (2, 0)), ((2, 0), (0, 0)), ((1, 0), (1, 2)), ((1, 2), (1, 0)), ((0, 0), (2, 2)), ((0, 2), (2, 0)),
                     ((0, 0), (2, 1)), ((2, 1), (0, 0)), ((1, 0), (0, 2)), ((0, 0), (1, 0))):
            rows = [[chance.choice(places) for k in range(chance.randint(2, 9))] for j in range(40)]
            self.check(s, p, ways, rows)

    def test_wide_water(self):
        chance = random.Random(32)
        some = lambda: (chance.randint(-FAR, FAR), chance.randint(-FAR, FAR))
        corner = lambda: (chance.choice((-FAR, -FAR + 1, 0, FAR - 1, FAR)), chance.choice((-FAR, 1 - FAR, 0, FAR - 1, FAR)))
        for turn in range(40):
            s, p = (some(), some()) if turn % 2 else (corner(), corner())
            if s == p:
                continue
            places = [some() for k in range(4)] + [corner() for k in range(4)] + [s, p, ((s[0] + p[0]) // 2, (s[1] + p[1]) // 2)]
            ways = list(itertools.product(places, repeat=2))
            rows = [[chance.choice(places) for k in range(30)] for j in range(5)]
            self.check(s, p, ways, rows)


class SecondPromise(unittest.TestCase):
    def check(self, s, p, cuts):
        """Each cut is a way's beginning, a place on it, its end."""
        before = load(line_text(s, p))
        calls = []
        for a, c, b in cuts:
            calls += [crossings(0, [a, b]), crossings(0, [a, c, b]), crossing(0, a, b), crossing(0, a, c), crossing(0, c, b)]
        given = run_behind(before, calls)
        for k, cut in enumerate(cuts):
            whole, parts, one, first, second = given[5 * k:5 * k + 5]
            self.assertEqual(whole[0], parts[0], (s, p, cut))
            self.assertEqual(whole[2::2], parts[2::2], (s, p, cut))
            crossed = [part[0] for part in (first, second) if part != [0]]
            self.assertEqual([one[0]] if one != [0] else [], crossed, (s, p, cut))
            self.seen[bool(crossed), first != [0]] = self.seen.get((bool(crossed), first != [0]), 0) + 1

    def setUp(self):
        self.seen = {}

    def cuts_of(self, a, b):
        steps = math.gcd(b[0] - a[0], b[1] - a[1])
        for k in range(steps + 1):
            x = a[0] + (b[0] - a[0]) // max(steps, 1) * k
            y = a[1] + (b[1] - a[1]) // max(steps, 1) * k
            yield a, (x, y), b

    def test_every_cut_of_a_small_water(self):
        places = [(x, y) for x in range(-2, 5) for y in range(-2, 5, 2)]
        cuts = [cut for a in places for b in places for cut in self.cuts_of(a, b)]
        for s, p in (((0, 0), (2, 0)), ((2, 0), (0, 0)), ((1, 2), (1, 0)), ((0, 0), (2, 2)), ((2, 1), (0, 0)), ((-2, -2), (4, 4))):
            self.check(s, p, cuts)
        for key in ((False, False), (True, True), (True, False)):
            self.assertGreater(self.seen[key], 500)

    def test_cut_in_line(self):
        s, p = (0, 0), (8, 0)
        for c in ((0, 0), (4, 0), (8, 0), (-1, 0), (9, 0)):
            cuts = []
            for step in ((0, 1), (1, 1), (-2, 3), (1, 0), (7, 1)):
                for far in (1, 2, 5):
                    a = (c[0] - far * step[0], c[1] - far * step[1])
                    b = (c[0] + 2 * step[0], c[1] + 2 * step[1])
                    cuts += [(a, c, b), (b, c, a), (a, c, c), (c, c, b), (c, c, c), (a, a, c), (c, b, b)]
            self.check(s, p, cuts)

    def test_wide_water(self):
        chance = random.Random(33)
        small = lambda: (chance.randint(-90000, 90000), chance.randint(-90000, 90000))
        for turn in range(60):
            s, p = small(), small()
            cuts = []
            for k in range(20):
                c = chance.choice((s, p, ((s[0] + p[0]) // 2, (s[1] + p[1]) // 2), small()))
                step = small()
                one, other = chance.randint(0, 10), chance.randint(0, 10)
                a = (c[0] - one * step[0], c[1] - one * step[1])
                b = (c[0] + other * step[0], c[1] + other * step[1])
                if max(map(abs, a + b)) <= FAR:
                    cuts.append((a, c, b))
            self.check(s, p, cuts)
        self.assertGreater(self.seen[True, True] + self.seen[True, False], 100)

    def test_a_row_cut_everywhere(self):
        """Thirty places of one way, whichever line it leads over."""
        whole = [(-14, -29), (15, 29)]
        row = [(-14 + k, -29 + 2 * k) for k in range(30)]
        self.assertEqual((row[0], row[-1]), (whole[0], whole[1]))
        for s, p in (((-9, 0), (9, 0)), ((9, 0), (-9, 0)), ((-9, -1), (9, -1)), ((0, -9), (0, 9)), ((-14, -29), (0, 29)), ((0, -1), (5, 5))):
            one, many = run(load(line_text(s, p)), crossings(0, whole), crossings(0, row))[1:]
            self.assertEqual((one[0], one[2::2]), (many[0], many[2::2]))

    def test_behind_a_move(self):
        before = "mark A 4 0\nline E 0 0 8 0"
        for place in ((4, 1), (0, 0), (4, -3)):
            given = run(load(before), move(0, *place), crossings(0, [(4, 3), (4, -3)]), crossings(0, [(4, 3), (4, 0), (4, -3)]))
            self.assertEqual(given[2:], [[1, 0, 1], [1, 1, 1]])


if __name__ == "__main__":
    unittest.main()
