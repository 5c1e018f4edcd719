"""The calls find and move."""

import unittest

from helper import (
    EXAMPLE, HUGE, TEXT, clear, course, crossing, find, inside, land_text, load, mark, met, move, name, run,
    run_behind, water_after,
)

FAR = 1000000
ALL_SORTS = (
    "mark A 0 0\nmark B 9 9\nmark abcdefABCD09 7 0\n"
    "line S 0 1 1 1\nline F 5 5 6 6\n"
    "land isle 20 20 29 20 20 29\nland L 40 40 49 40 40 49\n"
    "course one\nstart S\nround A port\nfinish F\nend\ncourse 2\nstart F\nfinish S\nend\n"
)


class Find(unittest.TestCase):
    def found(self, text, water=ALL_SORTS):
        return run(load(water), find(text))[1]

    def test_each_sort(self):
        told = {
            "A": [1, 0], "B": [1, 1], "abcdefABCD09": [1, 2], "S": [2, 0], "F": [2, 1], "isle": [3, 0], "L": [3, 1],
            "one": [4, 0], "2": [4, 1],
        }
        for called, expected in told.items():
            self.assertEqual(self.found(called), expected, called)

    def test_the_last_of_many(self):
        text = "".join([f"mark m{k} {k} 0\n" for k in range(24)])
        text += "".join([f"line l{k} 0 0 1 1\nland i{k} 50 50 60 50 50 60\n" for k in range(8)])
        text += "".join([f"course c{k}\nstart l0\nfinish l0\nend\n" for k in range(8)])
        for called, expected in (("m23", [1, 23]), ("l7", [2, 7]), ("i7", [3, 7]), ("c7", [4, 7]), ("m24", [0]), ("c8", [0])):
            self.assertEqual(self.found(called, text), expected, called)

    def test_a_name_that_none_has(self):
        for called in ("C", "a", "AB", "isl", "isle1", "ISLE", "s", "on", "22", "abcdefABCD0", "mark", "abcdefABCD091"):
            self.assertEqual(self.found(called), [0], called)

    def test_a_text_that_is_no_name(self):
        texts = ["A ", " A", "A\n", "\nA", "A#", "#", "?", "%", "A B", "-", "n" * 13, "A" * 60, "A\0", "\xff", "\xe9"]
        for text in texts + [[0], [255], [0] * 60, [127], [10], [32]]:
            self.assertEqual(self.found(text), [0], text)

    def test_the_empty_text(self):
        self.assertEqual(self.found(""), [0])
        self.assertEqual(run(find("")), [[0]])

    def test_numbers_that_are_no_bytes(self):
        for number in (-1, 256, 65 + 256, -191, HUGE, -HUGE):
            for text in ([number], [65, number], [number, 65], [0] * 59 + [number]):
                self.assertEqual(self.found(text), [-1], text)
                self.assertEqual(run(find(text)), [[-1]])

    def test_no_water(self):
        self.assertEqual(run(find("A")), [[0]])

    def test_another_load(self):
        calls = [load("mark A 0 0"), find("A"), load("line A 0 0 1 1"), find("A"), load("land A 0 0 1 0 0 1"), find("A"),
                 load("line B 0 0 1 1\ncourse A\nstart B\nfinish B\nend"), find("A"), load("foo"), find("A"), load(""), find("A")]
        self.assertEqual(run(*calls)[1::2], [[1, 0], [2, 0], [3, 0], [4, 0], [4, 0], [0]])

    def test_a_moved_mark_keeps_its_name(self):
        self.assertEqual(run(load(ALL_SORTS), move(1, 5, 5), find("B"))[1:], [[0], [1, 1]])


class Move(unittest.TestCase):
    def test_to_a_free_place(self):
        given = run(load(EXAMPLE), move(1, -7, FAR), mark(0), mark(1), TEXT, course(0), [2])
        self.assertEqual(given[1], [0])
        self.assertEqual(given[2], [0, 0, 10, 1, 65])
        self.assertEqual(given[3], [0, -7, FAR, 1, 66])
        self.assertEqual(given[4], name(EXAMPLE.replace("mark B 5 0", f"mark B -7 {FAR}")))
        self.assertEqual(given[5], run(load(EXAMPLE), course(0))[1])
        self.assertEqual(given[6], [2, 1, 0, 1])

    def test_to_where_it_is_already(self):
        known = water_after(load(ALL_SORTS))
        for i, x, y in ((0, 0, 0), (1, 9, 9), (2, 7, 0)):
            self.assertEqual(run(load(ALL_SORTS), move(i, x, y))[1], [0])
            self.assertEqual(water_after(load(ALL_SORTS), move(i, x, y)), known)
        self.assertEqual(run(load(EXAMPLE), move(0, 3, 3), move(0, 3, 3), mark(0))[1:], [[0], [0], [0, 3, 3, 1, 65]])

    def test_to_the_ends_of_the_water(self):
        for x, y in ((FAR, FAR), (-FAR, FAR), (FAR, -FAR), (-FAR, -FAR), (0, -FAR), (FAR, 0)):
            self.assertEqual(run(load("mark A 1 1"), move(0, x, y), mark(0))[1:], [[0], [0, x, y, 1, 65]])

    def test_to_another_marks_place(self):
        known = water_after(load(ALL_SORTS))
        for i, x, y in ((0, 9, 9), (0, 7, 0), (1, 0, 0), (2, 0, 0), (2, 9, 9)):
            self.assertEqual(run(load(ALL_SORTS), move(i, x, y))[1], [-3])
            self.assertEqual(water_after(load(ALL_SORTS), move(i, x, y)), known)

    def test_places_are_left_and_taken(self):
        calls = [load(EXAMPLE), move(0, 5, 0), move(1, 6, 6), move(0, 5, 0), move(1, 5, 0), move(1, 0, 10), mark(0), mark(1)]
        self.assertEqual(run(*calls)[1:], [[-3], [0], [0], [-3], [0], [0, 5, 0, 1, 65], [0, 0, 10, 1, 66]])

    def test_onto_land(self):
        hollow = [(0, 0), (10, 0), (10, 10), (5, 2), (0, 10)]
        on_it = [(5, 1), (1, 1), (9, 8), (0, 0), (10, 10), (5, 2), (5, 0), (0, 5), (10, 5), (0, 10), (1, 2)]
        beside_it = [(5, 3), (5, 10), (-1, 0), (11, 10), (-1, 2), (11, 2), (5, -1), (3, 6), (1, 9), (-FAR, 10)]
        for corners in (hollow, hollow[::-1]):
            text = "land M 50 50 60 50 50 60\nmark A 30 30\n" + land_text(corners)
            for x, y in on_it + [(51, 51), (50, 55), (60, 50)]:
                self.assertEqual(run(load(text), move(0, x, y), mark(0))[1:], [[-3], [0, 30, 30, 1, 65]])
            for x, y in beside_it:
                self.assertEqual(run(load(text), move(0, x, y), mark(0))[1:], [[0], [0, x, y, 1, 65]])

    def test_lines_are_in_no_ones_way(self):
        for x, y in ((10, -5), (0, -5), (-10, -5)):
            self.assertEqual(run(load(EXAMPLE), move(0, x, y))[1], [0])

    def test_out_of_range(self):
        for number in (FAR + 1, -FAR - 1, HUGE, -HUGE):
            for x, y in ((number, 0), (0, number), (number, number)):
                for i in (0, 1, 2, -1, HUGE):
                    self.assertEqual(run(load(EXAMPLE), move(i, x, y))[1], [-1])
                self.assertEqual(run(move(0, x, y)), [[-1]])

    def test_no_such_mark(self):
        for i in (-1, -2, 2, 24, HUGE, -HUGE):
            for x, y in ((50, 50), (FAR, FAR), (0, 10), (5, 0)):
                self.assertEqual(run(load(EXAMPLE), move(i, x, y))[1], [-2])
        self.assertEqual(run(move(0, 0, 0)), [[-2]])

    def test_no_such_mark_goes_before_a_taken_place(self):
        text = "mark A 0 0\nland L 20 20 29 20 20 29"
        for x, y in ((0, 0), (21, 21), (20, 20), (25, 20)):
            self.assertEqual(run(load(text), move(1, x, y))[1], [-2])
            self.assertEqual(run(load(text), move(-1, x, y))[1], [-2])

    def test_another_load_forgets_it(self):
        self.assertEqual(run(load(EXAMPLE), move(0, 3, 3), load(EXAMPLE), mark(0))[3], [0, 0, 10, 1, 65])
        self.assertEqual(run(load(EXAMPLE), move(0, 3, 3), load("foo"), mark(0))[3], [0, 3, 3, 1, 65])

    def test_lands_and_lines_stay(self):
        text = ALL_SORTS
        asked = [inside(20, 20), clear((0, 0), (30, 30)), met([(0, 0), (1, 1), (50, 50)]), crossing(0, (0, 0), (1, 2))]
        self.assertEqual(run(load(text), move(0, 3, 3), *asked)[2:], run_behind(load(text), asked))

    def test_all_the_marks(self):
        text = "".join([f"mark m{k} {k} 0\n" for k in range(24)])
        calls = [move(k, k + 1, 0) for k in range(23, -1, -1)]
        given = run(load(text), *calls, TEXT)
        self.assertEqual(given[1:-1], [[0]] * 24)
        self.assertEqual(given[-1], name("".join([f"mark m{k} {k + 1} 0\n" for k in range(24)])))
        given = run(load(text), *calls[::-1], TEXT)
        self.assertEqual(given[1:-1], [[-3]] * 23 + [[0]])


if __name__ == "__main__":
    unittest.main()
