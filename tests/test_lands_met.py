"""The calls inside, clear and met: what lies on land, and which ways meet it."""

import random
import unittest

from helper import (
    EXAMPLE, HUGE, clear, flat, has_on_it, has_place, inside, land_text, load, loaded, met, run, run_behind, share_a_place,
)

FAR = 1000000
SQUARE = [(0, 0), (10, 0), (10, 10), (0, 10)]
HOLLOW = [(0, 0), (10, 0), (10, 10), (5, 2), (0, 10)]
# Open to the east: its two arms lie over and under the place (6, 5).
FORK = [(0, 0), (12, 0), (12, 4), (4, 4), (4, 6), (12, 6), (12, 10), (0, 10)]


def both_ways_round(corners):
    """The same land begun at each corner, told leftwards and rightwards round."""
    for k in range(len(corners)):
        rolled = corners[k:] + corners[:k]
        yield rolled
        yield rolled[::-1]


class Inside(unittest.TestCase):
    within = {
        "square": (SQUARE, [(5, 5), (1, 1), (9, 9), (1, 9), (9, 1)]),
        "hollow": (HOLLOW, [(5, 1), (1, 1), (9, 8), (1, 8), (9, 1), (1, 2), (9, 2), (1, 7)]),
        "fork": (FORK, [(2, 5), (6, 2), (6, 8), (11, 1), (11, 9), (1, 4), (3, 6), (2, 4), (2, 6)]),
        "spike": ([(0, 0), (FAR, 1), (FAR, 3)], [(FAR - 1, 2)]),
    }
    border = {
        "square": (SQUARE, SQUARE + [(5, 0), (10, 5), (5, 10), (0, 5), (1, 0), (0, 9)]),
        "hollow": (HOLLOW, HOLLOW + [(5, 0), (0, 5), (10, 5), (1, 0), (10, 2), (0, 2)]),
        "fork": (FORK, FORK + [(4, 5), (8, 4), (8, 6), (12, 2), (12, 8), (0, 4), (0, 6), (6, 0), (6, 10)]),
        "slanting": ([(0, 0), (6, 3), (0, 12)], [(2, 1), (4, 2), (2, 9), (4, 6), (0, 7)]),
    }
    outside = {
        "square": (SQUARE, [(-1, 5), (11, 5), (5, -1), (5, 11), (-1, 0), (11, 0), (-1, 10), (11, 10), (-1, -1), (FAR, 10),
                            (-FAR, 0), (-FAR, 10), (0, 11), (0, -1), (10, 11), (10, -1), (FAR, FAR), (-FAR, -FAR)]),
        "hollow": (HOLLOW, [(5, 3), (5, 10), (4, 10), (6, 10), (-1, 2), (11, 2), (5, 9), (3, 6), (7, 6), (-FAR, 2), (FAR, 2)]),
        "fork": (FORK, [(6, 5), (12, 5), (5, 5), (-1, 4), (-1, 6), (13, 4), (13, 6), (-1, 0), (-1, 10), (13, 5), (-FAR, 4)]),
        "slanting": ([(0, 0), (6, 3), (0, 12)], [(3, 1), (4, 7), (-1, 3), (7, 3), (-FAR, 3), (-1, 0), (1, 0), (1, 12)]),
    }

    def check(self, told, expected):
        for called, (corners, places) in told.items():
            for row in both_ways_round(corners):
                given = run_behind(load(land_text(row)), [inside(x, y) for x, y in places])
                self.assertEqual(given, [expected] * len(places), (called, row))

    def test_within(self):
        self.check(self.within, [1, 0])

    def test_on_border(self):
        self.check(self.border, [2, 0])

    def test_outside(self):
        self.check(self.outside, [0])

    def test_no_land(self):
        self.assertEqual(run(inside(0, 0)), [[0]])
        self.assertEqual(run(load(EXAMPLE), inside(0, 10), inside(0, -5))[1:], [[0], [0]])

    def test_first_land_that_has_the_place(self):
        lands = [land_text(SQUARE, "a"), land_text([(5, 5), (15, 5), (15, 15), (5, 15)], "b"),
                 land_text([(-5, -5), (-5, 20), (20, 20), (20, -5)], "c"), land_text([(30, 30), (40, 30), (30, 40)], "d")]
        asked = [(7, 7), (5, 5), (10, 10), (10, 7), (12, 12), (15, 15), (12, 5), (2, 2), (17, 17), (20, 20), (31, 31), (35, 35), (99, 0)]
        calls = [inside(x, y) for x, y in asked]
        self.assertEqual(run_behind(load("\n".join(lands)), calls),
                         [[1, 0], [1, 0], [2, 0], [2, 0], [1, 1], [2, 1], [2, 1], [1, 0], [1, 2], [2, 2], [1, 3], [2, 3], [0]])
        self.assertEqual(run_behind(load("\n".join(lands[::-1])), calls),
                         [[1, 1], [1, 1], [1, 1], [1, 1], [1, 1], [1, 1], [1, 1], [1, 1], [1, 1], [2, 1], [1, 0], [2, 0], [0]])
        one = "\n".join([lands[1], lands[0]])
        self.assertEqual(run_behind(load(one), calls[:4]), [[1, 0], [2, 0], [1, 0], [1, 0]])

    def test_border_of_the_first_goes_before_within_the_second(self):
        text = land_text([(0, 0), (5, 0), (5, 5), (0, 5)], "a") + "\n" + land_text([(-9, -9), (9, -9), (9, 9), (-9, 9)], "b")
        self.assertEqual(run(load(text), inside(5, 3), inside(6, 3), inside(9, 3))[1:], [[2, 0], [1, 1], [2, 1]])

    def test_the_eighth_land(self):
        text = "\n".join([land_text([(20 * k, 0), (20 * k + 9, 0), (20 * k, 9)], f"l{k}") for k in range(8)])
        self.assertEqual(run(load(text), inside(141, 1), inside(140, 0), inside(150, 0))[1:], [[1, 7], [2, 7], [0]])

    def test_out_of_range(self):
        text = load(land_text([(-FAR, -FAR), (FAR, -FAR), (FAR, FAR), (-FAR, FAR)]))
        self.assertEqual(run(text, inside(FAR, FAR), inside(-FAR, -FAR), inside(0, FAR), inside(0, 0))[1:], [[2, 0]] * 3 + [[1, 0]])
        for number in (FAR + 1, -FAR - 1, HUGE, -HUGE):
            self.assertEqual(run(text, inside(number, 0), inside(0, number), inside(number, number))[1:], [[-1]] * 3)
            self.assertEqual(run(inside(number, 0), inside(0, number)), [[-1]] * 2)


class Clear(unittest.TestCase):
    meets = {
        "ends on a side": [((-5, 5), (0, 5)), ((15, 5), (10, 5)), ((5, -5), (5, 0)), ((5, 15), (5, 10)), ((-3, 2), (0, 5))],
        "ends on a corner": [((-5, -5), (0, 0)), ((15, 10), (10, 10)), ((10, -1), (10, 0)), ((-4, 12), (0, 10))],
        "ends within": [((-5, 5), (5, 5)), ((20, 20), (9, 9)), ((5, 15), (5, 9)), ((-FAR, 3), (1, 1))],
        "lies within": [((1, 1), (9, 9)), ((5, 5), (5, 6)), ((2, 3), (2, 7)), ((1, 5), (9, 5))],
        "leads from border to border": [((0, 0), (10, 10)), ((0, 5), (10, 5)), ((0, 0), (10, 0)), ((5, 0), (10, 5))],
        "leads along a side": [((0, 0), (0, 10)), ((2, 0), (8, 0)), ((-5, 0), (15, 0)), ((-5, 0), (5, 0)), ((10, 3), (10, 99))],
        "touches a corner": [((-5, 5), (5, -5)), ((5, 15), (15, 5)), ((-1, 9), (1, 11)), ((9, -1), (11, 1)), ((-3, 8), (3, 12))],
        "passes through": [((-5, 5), (15, 5)), ((5, -5), (5, 15)), ((-5, -5), (15, 15)), ((-1, 1), (1, -1)), ((-1, 2), (2, -1)),
                           ((-FAR, -FAR), (FAR, FAR))],
        "is a single place": [((5, 5), (5, 5)), ((0, 0), (0, 0)), ((0, 5), (0, 5)), ((10, 10), (10, 10))],
    }
    free = {
        "beside it": [((-1, 0), (-1, 10)), ((-5, -1), (15, -1)), ((11, -5), (11, 15)), ((20, 20), (30, 30))],
        "in line with a side": [((-5, 0), (-1, 0)), ((11, 10), (15, 10)), ((0, 11), (0, 20)), ((10, -9), (10, -1))],
        "past a corner": [((-2, 1), (1, -2)), ((8, 13), (13, 8)), ((-3, 9), (3, 12)), ((-FAR, FAR), (FAR, FAR))],
        "in line with a corner": [((11, 11), (20, 20)), ((-1, -1), (-9, -9))],
        "is a single place": [((-1, 0), (-1, 0)), ((11, 5), (11, 5)), ((5, 11), (5, 11)), ((FAR, -FAR), (FAR, -FAR)), ((-3, 0), (-3, 0))],
    }

    def check(self, corners, told, expected):
        for called, ways in told.items():
            for row in both_ways_round(corners):
                calls = [clear(a, b) for a, b in ways] + [clear(b, a) for a, b in ways]
                self.assertEqual(run_behind(load(land_text(row)), calls), [expected] * len(calls), (called, row))

    def test_meets(self):
        self.check(SQUARE, self.meets, [1, 0])

    def test_free(self):
        self.check(SQUARE, self.free, [0])

    def test_hollow_lands(self):
        free = [((6, 5), (99, 5)), ((5, 5), (12, 5)), ((6, 5), (6, 5)), ((13, 3), (13, 7)), ((12, 5), (13, 7))]
        meets = [((6, 5), (6, 9)), ((6, 5), (6, 4)), ((6, 5), (3, 5)), ((6, 5), (4, 5)), ((12, 5), (12, 6)),
                 ((6, 4), (9, 4)), ((6, 2), (6, 8)), ((11, 5), (13, 7))]
        self.check(FORK, {"fork": free}, [0])
        self.check(FORK, {"fork": meets}, [1, 0])
        free = [((5, 3), (5, 9)), ((5, 3), (5, 99)), ((4, 10), (6, 10))]
        meets = [((5, 3), (5, 2)), ((0, 10), (10, 10)), ((3, 8), (1, 8)), ((-1, 3), (11, 3))]
        self.check(HOLLOW, {"hollow": free}, [0])
        self.check(HOLLOW, {"hollow": meets}, [1, 0])

    def test_past_by_very_little(self):
        text = load(land_text([(-FAR, -FAR), (FAR, FAR - 1), (-FAR, FAR - 2)]))
        self.assertEqual(run(text, clear((-FAR + 1, -FAR), (FAR, FAR - 2)), clear((-FAR, -FAR), (FAR, FAR)))[1:], [[0], [1, 0]])
        self.assertEqual(run(text, clear((-FAR + 1, -FAR), (FAR, FAR - 1)), clear((FAR, FAR), (FAR, FAR - 1)))[1:], [[1, 0], [1, 0]])

    def test_no_land(self):
        self.assertEqual(run(clear((0, 0), (5, 5))), [[0]])
        self.assertEqual(run(load(EXAMPLE), clear((0, 10), (5, 0)), clear((-10, -5), (10, -5)))[1:], [[0], [0]])

    def test_first_land_by_number(self):
        """Not the one that the way comes to first, but the one that is told first."""
        text = load("land b 20 0 30 0 30 10 20 10\nland a 0 0 10 0 10 10 0 10\nland c 0 0 5 0 0 5")
        ways = [((-5, 2), (40, 2)), ((40, 2), (-5, 2)), ((-5, 2), (15, 2)), ((1, 1), (1, 1)), ((25, 5), (26, 5)), ((0, 0), (-1, -1)), ((0, 20), (40, 20))]
        self.assertEqual(run(text, *[clear(a, b) for a, b in ways])[1:], [[1, 0], [1, 0], [1, 1], [1, 1], [1, 0], [1, 1], [0]])

    def test_out_of_range(self):
        for before in (load(""), load(land_text(SQUARE))):
            for number in (FAR + 1, -FAR - 1, HUGE, -HUGE):
                for k in range(4):
                    numbers = [5, 5, 5, 5]
                    numbers[k] = number
                    self.assertEqual(run(before, [9] + numbers)[1], [-1])
        corners = [(FAR, FAR), (-FAR, FAR), (FAR, -FAR), (-FAR, -FAR)]
        self.assertEqual(run(load(land_text(SQUARE)), clear(corners[0], corners[3]), clear(corners[1], corners[2]))[1:], [[1, 0]] * 2)
        self.assertEqual(run(load(land_text(SQUARE)), clear(corners[0], corners[1]), clear(corners[2], corners[3]))[1:], [[0]] * 2)


class Met(unittest.TestCase):
    text = load("land a 0 0 10 0 10 10 0 10\nland b 20 0 30 0 30 10 20 10\nland c 5 5 25 5 25 8 5 8")

    def given(self, *places):
        return run(self.text, met(places))[1]

    def test_no_way_meets_land(self):
        self.assertEqual(self.given((-5, -5), (40, -5), (40, 20), (-5, 20), (-5, -5)), [0])
        self.assertEqual(self.given((-5, -5), (-5, -5)), [0])
        self.assertEqual(run(met([(0, 0), (5, 5), (7, 7)])), [[0]])

    def test_first_way_and_first_land_that_it_meets(self):
        self.assertEqual(self.given((-5, 2), (40, 2)), [1, 0, 0])
        self.assertEqual(self.given((40, 2), (-5, 2)), [1, 0, 0])
        self.assertEqual(self.given((40, 2), (15, 2), (-5, 2)), [1, 0, 1])
        self.assertEqual(self.given((15, 20), (15, 10), (15, 7), (5, 7)), [1, 1, 2])
        self.assertEqual(self.given((-5, -5), (40, -5), (40, 20), (-5, 20), (5, 6)), [1, 3, 0])
        self.assertEqual(self.given((-5, -5), (40, -5), (40, 5), (30, 5), (5, 5)), [1, 2, 1])

    def test_a_place_on_land_is_met_by_the_way_before_it(self):
        self.assertEqual(self.given((-5, -5), (-5, 0), (0, 0), (-5, 0)), [1, 1, 0])
        self.assertEqual(self.given((0, 0), (-5, 0), (-6, 0)), [1, 0, 0])
        self.assertEqual(self.given((5, 5), (5, 5)), [1, 0, 0])

    def test_the_last_way_counts(self):
        row = [(-5 - k, 20) for k in range(29)] + [(5, 5)]
        self.assertEqual(len(flat(row)), 60)
        self.assertEqual(self.given(*row), [1, 28, 0])
        self.assertEqual(self.given(*row[:-1], (-99, -99)), [0])

    def test_the_way_back_to_the_first_place_is_not_sailed(self):
        self.assertEqual(self.given((-5, 5), (-5, 20), (40, 20), (40, 5)), [0])

    def test_every_way_of_clear(self):
        for told, expected in ((Clear.meets, [1, 0, 0]), (Clear.free, [0])):
            ways = [way for ways in told.values() for way in ways]
            calls = [met(way) for way in ways] + [met(way[::-1]) for way in ways]
            self.assertEqual(run_behind(load(land_text(SQUARE)), calls), [expected] * len(calls))

    def test_rows_that_are_none(self):
        for numbers in ([], [0], [0, 0], [0, 0, 0], [0] * 5, [0] * 59, [5, 5], [FAR + 1, 0], [HUGE]):
            row = [12, len(numbers)] + numbers
            self.assertEqual(run(self.text, row)[1], [-1], numbers)
            self.assertEqual(run(row), [[-1]])

    def test_places_out_of_range(self):
        for count in (4, 6, 60):
            for k in (0, 1, 2, 3, count - 2, count - 1):
                for number in (FAR + 1, -FAR - 1, HUGE, -HUGE):
                    numbers = [5] * count
                    numbers[k] = number
                    self.assertEqual(run(self.text, [12, count] + numbers)[1], [-1])
        self.assertEqual(self.given((FAR, FAR), (FAR, -FAR), (-FAR, -FAR), (-FAR, FAR)), [0])
        self.assertEqual(self.given((FAR, FAR), (FAR, -FAR), (-FAR, -FAR), (FAR, FAR)), [1, 2, 0])


def sides_of(corners):
    return list(zip(corners, corners[1:] + corners[:1]))


def told_inside(lands, place):
    for k, corners in enumerate(lands):
        if any(has_place(a, b, place) for a, b in sides_of(corners)):
            return [2, k]
        if has_on_it(corners, place):
            return [1, k]
    return [0]


def told_clear(lands, a, b):
    for k, corners in enumerate(lands):
        if has_on_it(corners, a) or any(share_a_place(a, b, c, d) for c, d in sides_of(corners)):
            return [1, k]
    return [0]


def told_met(lands, row):
    for k in range(len(row) - 1):
        given = told_clear(lands, row[k], row[k + 1])
        if given != [0]:
            return [1, k, given[1]]
    return [0]


class ByAnotherRoad(unittest.TestCase):
    def some_lands(self, chance, size):
        lands = []
        while len(lands) < chance.randint(1, 3):
            x, y = chance.randint(-3, 8), chance.randint(-3, 8)
            corners = [(x + chance.randint(0, size), y + chance.randint(0, size)) for k in range(chance.randint(3, 7))]
            if loaded(land_text(corners)) == [0, 0, 1, 0]:
                lands.append(corners)
        return lands, load("\n".join([land_text(corners, f"l{k}") for k, corners in enumerate(lands)]))

    def test_small_waters(self):
        chance = random.Random(21)
        seen = {}
        for turn in range(60):
            lands, before = self.some_lands(chance, chance.choice((2, 4, 6)))
            places = [(x, y) for x in range(-4, 14, 1) for y in range(-4, 14, 2)]
            ways = [(chance.choice(places), chance.choice(places)) for k in range(80)]
            rows = [[chance.choice(places) for k in range(chance.randint(2, 5))] for j in range(15)]
            calls = [inside(x, y) for x, y in places] + [clear(a, b) for a, b in ways] + [met(row) for row in rows]
            told = [told_inside(lands, place) for place in places] + [told_clear(lands, a, b) for a, b in ways]
            told += [told_met(lands, row) for row in rows]
            for call, given, expected in zip(calls, run_behind(before, calls), told):
                self.assertEqual(given, expected, (lands, call))
                seen[call[0], given[0]] = seen.get((call[0], given[0]), 0) + 1
        for key in ((8, 0), (8, 1), (8, 2), (9, 0), (9, 1), (12, 0), (12, 1)):
            self.assertGreater(seen[key], 50, key)

    def test_wide_waters(self):
        chance = random.Random(22)
        some = lambda: (chance.randint(-FAR, FAR), chance.randint(-FAR, FAR))
        for turn in range(40):
            corners = [some(), some(), some()]
            between = [((a[0] + b[0]) // 2, (a[1] + b[1]) // 2) for a, b in sides_of(corners)]
            places = corners + between + [some() for k in range(6)]
            ways = [(a, b) for a in places for b in places]
            given = run_behind(load(land_text(corners)), [inside(x, y) for x, y in places] + [clear(a, b) for a, b in ways])
            self.assertEqual(given[:len(places)], [told_inside([corners], place) for place in places])
            self.assertEqual(given[len(places):], [told_clear([corners], a, b) for a, b in ways])


if __name__ == "__main__":
    unittest.main()
