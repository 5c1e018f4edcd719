"""Marks, lines and lands: what is wrong with each of them, and the calls that ask for them."""

import itertools
import random
import unittest

from helper import HUGE, Texts, has_on_it, has_place, land, land_text, line, load, loaded, mark, name, run, share_a_place
from helper import written

FIRST_LAND = "land L 0 0 10 0 10 10 0 10"


def comb(count):
    """A simple land of this many corners, far from the beginning."""
    below = count // 2
    corners = [(100 + k, k % 2) for k in range(below)]
    return corners + [(100 + below - k, 10 + k % 2) for k in range(count - below)]


class Marks(Texts, unittest.TestCase):
    def test_answer(self):
        text = "mark A 1 -2\nmark bb3 -1000000 1000000\n"
        self.assertEqual(
            run(load(text), mark(0), mark(1)),
            [[2, 0, 0, 0], [0, 1, -2, 1, 65], [0, -1000000, 1000000, 3, 98, 98, 51]],
        )

    def test_no_such_mark(self):
        self.assertEqual(run(mark(0)), [[-2]])
        for i in (-1, -2, 2, 3, HUGE, -HUGE):
            self.assertEqual(run(load("mark A 0 0\nmark B 1 1"), mark(i))[1], [-2])

    def test_24_marks(self):
        text = "".join([f"mark m{k} {k} 0\n" for k in range(24)])
        self.assert_right(text, [24, 0, 0, 0])
        self.assertEqual(run(load(text), mark(23), mark(24))[1:], [[0, 23, 0, 3, 109, 50, 51], [-2]])
        self.assert_line_wrong("mark m24 24 0", text)
        self.assert_right(text + "line L 0 0 1 1\n", [24, 1, 0, 0])

    def test_one_mark_a_place(self):
        self.assert_line_wrong("mark B 3 4", "mark A 3 4\n")
        self.assert_line_wrong("mark C 3 4", "mark A 3 4\nmark B 4 3\n")
        self.assert_right("mark A 3 4\nmark B 4 3\nmark C -3 4\nmark D 3 -4\n", [4, 0, 0, 0])

    def test_marks_may_be_on_lines(self):
        self.assert_right("mark A 0 0\nline L 0 0 4 0\nmark B 2 0\nmark C 4 0\n", [3, 1, 0, 0])


class RegattaLines(Texts, unittest.TestCase):
    def test_answer(self):
        text = "line S 10 -5 -10 -6\nline finish1 0 0 1000000 -1000000\n"
        self.assertEqual(
            run(load(text), line(0), line(1)),
            [[0, 2, 0, 0], [0, 10, -5, -10, -6, 1, 83], [0, 0, 0, 1000000, -1000000] + name("finish1")],
        )

    def test_no_such_line(self):
        self.assertEqual(run(line(0)), [[-2]])
        for i in (-1, -2, 2, HUGE, -HUGE):
            self.assertEqual(run(load("line A 0 0 1 1\nline B 0 0 1 1\nmark M 0 0"), line(i))[1], [-2])

    def test_8_lines(self):
        text = "".join([f"line l{k} 0 0 1 1\n" for k in range(8)])
        self.assert_right(text, [0, 8, 0, 0])
        self.assertEqual(run(load(text), line(7), line(8))[1:], [[0, 0, 0, 1, 1, 2, 108, 55], [-2]])
        self.assert_line_wrong("line l8 0 0 1 1", text)
        self.assert_right(text + "mark M 0 0\n", [1, 8, 0, 0])

    def test_ends_are_two_places(self):
        self.assert_line_wrong("line A 3 4 3 4")
        self.assert_right("line A 3 4 4 3\nline B 3 4 3 5\nline C 3 4 2 4\n", [0, 3, 0, 0])

    def test_lines_may_be_on_land(self):
        self.assert_right(FIRST_LAND + "\nline A 1 1 2 2\nline B 0 0 10 0\nline C -5 5 15 5\n", [0, 3, 1, 0])


class Lands(Texts, unittest.TestCase):
    def test_answer(self):
        text = "land L 0 0 10 0 10 10 0 10\nland rightwards 0 0 0 10 10 10 10 0\nland T 0 0 3 0 0 1\n"
        self.assertEqual(
            run(load(text), land(0), land(1), land(2)),
            [
                [0, 0, 3, 0],
                [0, 200, 4, 0, 0, 10, 0, 10, 10, 0, 10, 1, 76],
                [0, -200, 4, 0, 0, 0, 10, 10, 10, 10, 0] + name("rightwards"),
                [0, 3, 3, 0, 0, 3, 0, 0, 1, 1, 84],
            ],
        )

    def test_largest_land(self):
        m = 1000000
        text = f"land L -{m} -{m} {m} -{m} {m} {m} -{m} {m}"
        self.assertEqual(run(load(text), land(0))[1], [0, 8 * m * m, 4, -m, -m, m, -m, m, m, -m, m, 1, 76])
        self.assert_wrong(text + "\nmark A 0 0\n", 2)
        self.assert_wrong(text + f"\nmark A {m} {m}\n", 2)

    def test_no_such_land(self):
        self.assertEqual(run(land(0)), [[-2]])
        for i in (-1, 1, 2, HUGE, -HUGE):
            self.assertEqual(run(load(FIRST_LAND + "\nmark A 20 20\nmark B 30 30"), land(i))[1], [-2])

    def test_8_lands(self):
        text = "".join([f"land l{k} 0 0 1 0 0 1\n" for k in range(8)])
        self.assert_right(text, [0, 0, 8, 0])
        self.assertEqual(run(load(text), land(7), land(8))[1:], [[0, 1, 3, 0, 0, 1, 0, 0, 1, 2, 108, 55], [-2]])
        self.assert_line_wrong("land l8 0 0 1 0 0 1", text)
        self.assert_right(text + "mark M 5 5\n", [1, 0, 8, 0])

    def test_3_to_20_corners(self):
        self.assert_line_wrong("land L")
        self.assert_line_wrong("land L 0 0")
        self.assert_line_wrong("land L 0 0 5 5")
        for count in range(4, 21):
            corners = comb(count)
            self.assertEqual(run(load(land_text(corners)), land(0))[1][2], count)
        self.assert_right("land L 0 0 1 0 0 1", [0, 0, 1, 0])
        for count in range(21, 30):
            self.assert_line_wrong(land_text(comb(count)))

    def test_lands_may_meet_lands(self):
        again = FIRST_LAND.replace(" L ", " M ")
        self.assert_right(FIRST_LAND + "\n" + again + "\nland N 2 2 3 2 2 3\nland O 10 10 20 10 10 20\n", [0, 0, 4, 0])


class SimpleLands(Texts, unittest.TestCase):
    simple = {
        "a corner straight on": [(0, 0), (5, 0), (10, 0), (10, 10)],
        "the first corner straight on": [(5, 0), (10, 0), (10, 10), (0, 0)],
        "hollow": [(0, 0), (10, 0), (10, 10), (5, 1), (0, 10)],
        "a thin spike": [(0, 0), (1000000, 1), (1000000, 2)],
        "a side in line with another": [(0, 0), (4, 0), (4, 4), (6, 4), (6, 0), (10, 0), (10, 8), (0, 8)],
        "a corner beside a side by little": [(0, 0), (999999, 1000000), (0, 1000000), (999998, 999999), (-5, 5)],
    }
    not_simple = {
        "sides that cross": [(0, 0), (10, 10), (10, 0), (0, 10)],
        "sides that cross, the last one": [(0, 0), (10, 0), (5, 5), (10, 10), (0, 10), (8, 5)],
        "a corner on a side": [(0, 0), (10, 0), (10, 10), (5, 0), (0, 10)],
        "a corner on a corner": [(0, 0), (10, 0), (5, 5), (10, 10), (0, 10), (5, 5)],
        "a side on a side": [(0, 0), (10, 0), (10, 5), (8, 0), (2, 0), (0, 5)],
        "a side on part of a side": [(0, 0), (10, 0), (12, 5), (12, 0), (8, 0), (8, 9), (0, 5)],
        "folded back shorter": [(0, 0), (10, 0), (4, 0), (4, 5)],
        "folded back longer": [(0, 0), (10, 0), (-4, 0), (4, 5)],
        "folded back to the very corner": [(0, 0), (10, 0), (0, 0), (4, 5)],
        "the last side folds back": [(0, 0), (10, 0), (10, 10), (5, 0)],
        "the first side folds back": [(10, 0), (5, 0), (5, 5), (0, 0)],
        "corners in line": [(0, 0), (5, 5), (10, 10)],
        "corners in line, four": [(0, 0), (5, 0), (10, 0), (7, 0)],
        "one corner twice, next": [(0, 0), (0, 0), (10, 0), (10, 10)],
        "one corner twice, last and first": [(0, 0), (10, 0), (10, 10), (0, 0)],
        "one corner twice, apart": [(0, 0), (10, 0), (0, 10), (10, 0), (20, 20)],
        "one place": [(3, 3), (3, 3), (3, 3)],
        "two places": [(3, 3), (3, 3), (4, 4)],
        "two places, four corners": [(3, 3), (4, 4), (3, 3), (4, 4)],
        "a corner over a side by little": [(0, 0), (999999, 1000000), (0, 1000000), (1, 1), (-5, 5)],
        "far out": [(-1000000, -1000000), (1000000, 1000000), (1000000, -1000000), (-1000000, 1000000)],
    }

    def turned(self, corners):
        """The same figure begun at each corner, in both ways round, and with east and north changed."""
        for k in range(len(corners)):
            rolled = corners[k:] + corners[:k]
            for row in (rolled, rolled[::-1]):
                yield row
                yield [(y, x) for x, y in row]
                yield [(-x, y) for x, y in row]

    def test_simple(self):
        for told, corners in self.simple.items():
            for row in self.turned(corners):
                with self.subTest(told, row=row):
                    self.assert_right(land_text(row), [0, 0, 1, 0])

    def test_not_simple(self):
        for told, corners in self.not_simple.items():
            for row in self.turned(corners):
                with self.subTest(told, row=row):
                    self.assert_line_wrong(land_text(row), "mark far 77 -77\n")


class MarksAndLands(Texts, unittest.TestCase):
    hollow = [(0, 0), (10, 0), (10, 10), (5, 2), (0, 10)]
    on_it = [
        (5, 1), (1, 1), (9, 8), (1, 8), (9, 1), (1, 2),
        (0, 0), (10, 0), (10, 10), (5, 2), (0, 10),
        (5, 0), (0, 5), (10, 5), (1, 0),
    ]
    beside_it = [
        (5, 3), (5, 10), (4, 10), (6, 10), (-1, 0), (11, 0), (-1, 10), (11, 10), (-1, 2), (11, 2), (5, -1),
        (0, -1), (0, 11), (20, 5), (-20, 5), (5, 9), (3, 6), (7, 6), (9, 9), (1, 9), (-1000000, 10), (1000000, 0),
    ]

    def orders(self, place):
        """The mark told before the land and behind it, for the land in both ways round."""
        told = f"mark A {place[0]} {place[1]}\n"
        for corners in (self.hollow, self.hollow[::-1]):
            for k in range(len(corners)):
                island = land_text(corners[k:] + corners[:k]) + "\n"
                yield told + island
                yield island + told

    def test_on_it(self):
        for place in self.on_it:
            for text in self.orders(place):
                self.assert_wrong(text, 2)

    def test_beside_it(self):
        for place in self.beside_it:
            for text in self.orders(place):
                self.assert_right(text, [1, 0, 1, 0])

    def test_every_mark_and_every_land_counts(self):
        lands = "land L 0 0 9 0 0 9\nland M 20 20 29 20 20 29\nland N 40 40 49 40 40 49\n"
        for place in ("1 1", "21 21", "41 41", "0 9", "20 29", "45 44"):
            self.assert_line_wrong("mark A " + place, lands)
        marks = "mark A 1 1\nmark B 21 21\nmark C 41 41\n"
        for told in lands.splitlines():
            self.assert_line_wrong(told, marks)
        self.assert_right(lands + "mark A 5 5\nmark B 15 15\n", [2, 0, 3, 0])


def is_simple(corners):
    count = len(corners)
    sides = [(corners[k], corners[(k + 1) % count]) for k in range(count)]
    for i, j in itertools.permutations(range(count), 2):
        if (i + 1) % count == j:
            if has_place(*sides[i], sides[j][1]) or has_place(*sides[j], sides[i][0]):
                return False
        elif (j + 1) % count != i and share_a_place(*sides[i], *sides[j]):
            return False
    return True


class ByAnotherRoad(unittest.TestCase):
    def test_small_figures(self):
        chance = random.Random(7)
        seen = {True: 0, False: 0}
        for turn in range(1500):
            size = chance.choice((2, 3, 5, 9))
            corners = [(chance.randint(0, size), chance.randint(0, size)) for k in range(chance.choice((3, 3, 4, 4, 5, 6, 7)))]
            simple = is_simple(corners)
            seen[simple] += 1
            self.assertEqual(loaded(land_text(corners))[0] >= 0, simple, corners)
            if simple:
                self.check_places(corners, size)
        self.assertGreater(min(seen.values()), 200)

    def check_places(self, corners, size):
        """All the places at once: each mark in a load of its own, in one list of calls."""
        places = [(x, y) for x in range(-1, size + 2) for y in range(-1, size + 2)]
        for part in range(0, len(places), 50):
            row = places[part:part + 50]
            island = land_text(corners) + "\n"
            behind = run(*[load(island + f"mark A {x} {y}") for x, y in row])
            before = run(*[load(f"mark A {x} {y}\n" + island) for x, y in row])
            for place, one, other in zip(row, behind, before):
                expected = [-1002] if has_on_it(corners, place) else [1, 0, 1, 0]
                self.assertEqual([one, other], [expected, expected], (corners, place))

    def test_all_triangles_of_a_small_water(self):
        places = [(x, y) for x in range(3) for y in range(3)]
        for corners in itertools.product(places, repeat=3):
            (a, b), (c, d), (e, f) = corners
            area = (c - a) * (f - b) - (d - b) * (e - a)
            first, second = run(load(land_text(corners)), land(0))
            if area == 0:
                self.assertEqual([first, second], [[-1001], [-2]])
            else:
                self.assertEqual(second, [0, area, 3, a, b, c, d, e, f, 1, 76])

    def test_large_figures(self):
        chance = random.Random(8)
        for turn in range(300):
            corners = [(chance.randint(-10 ** 6, 10 ** 6), chance.randint(-10 ** 6, 10 ** 6)) for k in range(5)]
            simple = is_simple(corners)
            self.assertEqual(loaded(land_text(corners))[0] >= 0, simple, corners)
            if simple:
                self.assertEqual(written(land_text(corners)), land_text(corners) + "\n")


if __name__ == "__main__":
    unittest.main()
