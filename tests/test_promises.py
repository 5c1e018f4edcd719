"""The promises 1 and 3, and the interface: what stays as it is, and what is kept."""

import random
import unittest

from helper import (
    COUNTS, EXAMPLE, HUGE, TEXT, ask_all, clear, course, crossing, crossings, find, inside, land, line, load, loaded, mark,
    met, move, name, run, water_after, written,
)
from regattawater.water import answers

MIXED = (
    "# told in another order than it is written\n"
    "land isle 100 100 120 100 110 130\n"
    "line  S 10 -5 -10 -5\n"
    "mark A 0 10   # the first\n"
    "course one\n\nstart S\nlaps 2\nround A port\ndone\nround A starboard\nfinish S\nend\n"
    "mark B 5 0\n"
    "land rock -100 0 -100 50 -90 20 -80 0\n"
    "line F -1000000 1000000 1000000 -1000000\n"
    "course two\nstart F\ngate B A\nlaps 9\ngate A B\nround B starboard\nround B port\ndone\nfinish S\nend"
)
MIXED_WRITTEN = (
    "mark A 0 10\n"
    "mark B 5 0\n"
    "line S 10 -5 -10 -5\n"
    "line F -1000000 1000000 1000000 -1000000\n"
    "land isle 100 100 120 100 110 130\n"
    "land rock -100 0 -100 50 -90 20 -80 0\n"
    "course one\nstart S\nlaps 2\nround A port\ndone\nround A starboard\nfinish S\nend\n"
    "course two\nstart F\ngate B A\nlaps 9\ngate A B\nround B starboard\nround B port\ndone\nfinish S\nend\n"
)
FAR = 1000000
ROW = [(0, -9), (0, -1), (110, 110), (0, -9)]
ASKING = [TEXT, COUNTS] + [call(i) for call in (mark, line, land, course) for i in (0, 1, -1, 7, HUGE, -HUGE)]
ASKING += [find(called) for called in ("A", "S", "rock", "two", "none", "", "\n")]
ASKING += [inside(110, 110), inside(100, 100), inside(0, 0), inside(FAR, -FAR)]
ASKING += [clear((0, 0), (200, 200)), clear((0, 0), (5, 5)), clear((110, 110), (110, 110))]
ASKING += [crossing(0, *ROW[:2]), crossing(0, *ROW[1::-1]), crossing(0, (0, 0), (0, 9)), crossing(1, (-9, -9), (9, 9))]
ASKING += [crossings(0, ROW), crossings(0, [(0, 0), (0, 0)]), met(ROW), met(ROW[:2])]
REFUSED = [mark(-1), line(8), land(HUGE), course(-HUGE), find([256]), find([65, -1])]
REFUSED += [inside(FAR + 1, 0), inside(0, -HUGE), clear((0, 0), (0, FAR + 1)), clear((-HUGE, 0), (0, 0))]
REFUSED += [crossing(0, (0, 0), (FAR + 1, 0)), crossing(-1, *ROW[:2]), crossing(8, (0, 0), (HUGE, 0))]
REFUSED += [crossings(0, []), crossings(0, ROW[:1]), [11, 0, 3, 0, 0, 0], crossings(0, [(0, 0), (0, HUGE)]), crossings(8, ROW)]
REFUSED += [met([]), met(ROW[:1]), [12, 5, 0, 0, 0, 0, 0], met([(0, 0), (-FAR - 1, 0)])]
REFUSED += [move(0, FAR + 1, 0), move(0, 0, -HUGE), move(-1, 50, 50), move(24, 50, 50), move(HUGE, 50, 50)]


def some_text(chance):
    """A right text of all sorts of lines in an order of chance, with blanks and remarks of chance."""
    told, marks, lines = [], [], []
    for k in range(chance.randint(1, 30)):
        sort = chance.choice(("mark", "mark", "line", "land", "course"))
        called = f"{sort[:2]}{k}" if chance.random() < 0.7 else f"{k}X"
        if sort == "mark" and len(marks) < 24:
            marks.append(called)
            told.append(f"mark {called} {k} {chance.randint(-1000000, 1000000)}")
        elif sort == "line" and len(lines) < 8:
            lines.append(called)
            told.append(f"line {called} {k} {chance.randint(-99, 99)} {-k - 1} {chance.randint(-1000000, 1000000)}")
        elif sort == "land" and sum(row.startswith("land") for row in told) < 8:
            told.append(f"land {called} {-k - 10} {k} {-k - 12} {k + chance.randint(1, 9)} {-k - 30} {k - 3}")
        elif sort == "course" and lines and sum(row.startswith("course") for row in told) < 8:
            told += some_course(chance, called, marks, lines)
    return "".join(some_spacing(chance, row) for row in told)


def some_course(chance, called, marks, lines):
    rows = [f"course {called}", f"start {chance.choice(lines)}"]
    for part in range(chance.randint(0, 3) if marks else 0):
        if chance.random() < 0.5:
            rows.append(some_element(chance, marks))
        else:
            rows.append(f"laps {chance.randint(2, 4)}")
            rows += [some_element(chance, marks) for k in range(chance.randint(1, 2))] + ["done"]
    return rows + [f"finish {chance.choice(lines)}", "end"]


def some_element(chance, marks):
    if len(marks) > 1 and chance.random() < 0.5:
        return "gate " + " ".join(chance.sample(marks, 2))
    return f"round {chance.choice(marks)} {chance.choice(('port', 'starboard'))}"


def some_spacing(chance, row):
    words = (" " * chance.choice((1, 1, 2))).join(row.split())
    remark = chance.choice(("", "", " # mark Z 0 0", "#"))
    nothing = chance.choice(("", "", "\n", "#end\n"))
    return nothing + " " * chance.choice((0, 0, 3)) + words + remark + "\n"


class Written(unittest.TestCase):
    def test_empty_water(self):
        self.assertEqual(run(TEXT, COUNTS), [[0], [0, 0, 0, 0]])
        self.assertEqual(run(load(""), TEXT, COUNTS), [[0, 0, 0, 0], [0], [0, 0, 0, 0]])
        self.assertEqual(run(load(EXAMPLE), load("# nothing"), TEXT), [[2, 1, 0, 1], [0, 0, 0, 0], [0]])

    def test_order_and_form(self):
        self.assertEqual(written(MIXED), MIXED_WRITTEN)

    def test_bytes_stand_behind_how_many_they_are(self):
        self.assertEqual(run(load(EXAMPLE), TEXT)[1], name(EXAMPLE))

    def test_laps_stay_laps(self):
        before = "mark A 0 0\nline S 0 0 1 1\ncourse c\nstart S\n"
        behind = "finish S\nend\n"
        unlike = (
            "laps 2\nround A port\ndone\n",
            "round A port\nround A port\n",
            "laps 2\nround A port\nround A port\ndone\nlaps 2\nround A port\ndone\n",
        )
        for inner in unlike:
            self.assertEqual(written(before + inner + behind), before + inner + behind)


class FirstPromise(unittest.TestCase):
    def check(self, text):
        once = written(text)
        self.assertEqual(written(once), once)
        self.assertEqual(water_after(load(once)), water_after(load(text)))
        self.assertEqual(water_after(load(text), load(once)), water_after(load(text)))

    def test_told_texts(self):
        for text in ("", EXAMPLE, MIXED, MIXED_WRITTEN):
            self.check(text)

    def test_full_water(self):
        text = "".join([f"mark m{k} {k} 0\n" for k in range(24)])
        text += "".join([f"line l{k} {k} 1 2 2\n" for k in range(8) if k != 2]) + "line l2 0 0 0 1\n"
        text += "".join([f"land i{k} {k} 10 20 10 {k} 20\n" for k in range(8)])
        for k in range(8):
            text += f"course c{k}\nstart l{k}\nlaps 9\ngate m{k} m{k + 9}\nround m23 port\nround m22 starboard\ndone\n"
            text += f"round m{k} port\nfinish l7\nend\n"
        self.assertEqual(loaded(text), [24, 8, 8, 8])
        self.check(text)

    def test_texts_of_chance(self):
        chance = random.Random(11)
        for turn in range(200):
            text = some_text(chance)
            self.assertGreaterEqual(loaded(text)[0], 0, text)
            self.check(text)


class FirstPromiseBehindMoves(unittest.TestCase):
    def check(self, *before):
        """What is written behind these calls is read as the same water as they lead to."""
        told = run(*before, TEXT)[-1][1:]
        again = run(load(told), TEXT)
        self.assertEqual(again[0], run(*before, COUNTS)[-1])
        self.assertEqual(again[1][1:], told)
        self.assertEqual(water_after(load(told)), water_after(*before))
        self.assertEqual(water_after(*before, load(told)), water_after(*before))

    def test_told_moves(self):
        self.check(load(MIXED), move(0, 5, 1), move(1, 0, 10), move(0, 5, 0))
        self.check(load(MIXED), move(0, FAR, -FAR), move(1, -FAR, FAR))
        self.check(load(MIXED), move(0, 110, 110), move(1, 100, 100), move(1, 0, 10), move(0, 10, -5))
        text = written(MIXED).replace("mark B 5 0", "mark B -100 -1")
        self.assertEqual(run(load(MIXED), move(1, -100, -1), TEXT)[-1], name(text))

    def test_places_that_marks_leave_and_take(self):
        calls = [load(EXAMPLE), move(0, 1, 1), move(1, 0, 10), move(0, 5, 0)]
        self.assertEqual(run(*calls)[1:], [[0]] * 3)
        self.check(*calls)
        self.assertEqual(run(*calls, mark(0), mark(1))[-2:], [[0, 5, 0, 1, 65], [0, 0, 10, 1, 66]])

    def test_moves_of_chance(self):
        chance = random.Random(12)
        seen = {}
        for turn in range(150):
            text = some_text(chance)
            moves = []
            for k in range(chance.randint(1, 20)):
                x = chance.choice((chance.randint(-45, 0), chance.randint(-FAR, FAR)))
                moves.append(move(chance.randint(0, 9), x, chance.randint(-3, 30)))
            for given in run(load(text), *moves)[1:]:
                seen[given[0]] = seen.get(given[0], 0) + 1
            self.check(load(text), *moves)
        self.assertEqual(sorted(seen), [-3, -2, 0])
        self.assertGreater(min(seen.values()), 30)


class ThirdPromise(unittest.TestCase):
    wrong = (
        "foo", "mark Z 77 77\nfoo", "mark Z 77 77\nmark Z 78 78", "line Z 0 0 0 0", "land Z 0 0 1 1 2 2",
        "course Z", "mark Z 1 1\nline Y 0 0 1 1\ncourse X\nstart Y\nround Z port\nfinish Y\n",
        "\t", [256], [-1], list(b"mark Z 77 77\n") + [HUGE],
    )

    def test_refused_load_changes_nothing(self):
        for before in ((), (load(EXAMPLE),), (load(MIXED),), (load(EXAMPLE), load(MIXED))):
            known = water_after(*before)
            for text in self.wrong:
                self.assertLess(run(*before, load(text))[-1][0], 0)
                self.assertEqual(water_after(*before, load(text)), known)

    def test_all_refusals_one_behind_another(self):
        calls = [load(MIXED)] + [load(text) for text in self.wrong]
        self.assertEqual(water_after(*calls), water_after(load(MIXED)))

    def test_asking_changes_nothing(self):
        for before in ((), (load(EXAMPLE),), (load(MIXED),), (load(MIXED), move(0, 7, 7))):
            known = water_after(*before)
            for call in ASKING:
                self.assertEqual(water_after(*before, call), known)
                self.assertEqual(run(*before, call, call)[-2:], [run(*before, call)[-1]] * 2)

    def test_refused_calls_change_nothing(self):
        for before in ((), (load(EXAMPLE),), (load(MIXED),), (load(MIXED), move(0, 7, 7))):
            known = water_after(*before)
            for call in REFUSED:
                given = run(*before, call)[-1]
                self.assertEqual(len(given), 1)
                self.assertLess(given[0], 0, call)
                self.assertEqual(water_after(*before, call), known)

    def test_moves_to_taken_places_change_nothing(self):
        for before in ((load(MIXED),), (load(MIXED), move(0, 7, 7), move(1, 0, 10), move(0, 5, 0), move(1, 6, 6))):
            known = water_after(*before)
            places = [tuple(answer[1:3]) for answer in run(*before, mark(0), mark(1))[-2:]]
            for call in [move(0, *places[1]), move(1, *places[0])] + [
                move(i, x, y) for i in (0, 1) for x, y in ((110, 110), (100, 100), (105, 100), (-100, 50), (-95, 10))
            ]:
                self.assertEqual(run(*before, call)[-1], [-3], call)
                self.assertEqual(water_after(*before, call), known)

    def test_refused_and_asking_calls_between(self):
        """They change nothing that later calls answer, move among them."""
        later = [move(0, 5, 0), move(1, 7, 7), move(0, 5, 0), TEXT]
        expected = run(load(MIXED), *later)[1:]
        self.assertEqual(expected[:3], [[-3], [0], [0]])
        self.assertEqual(run(load(MIXED), *REFUSED, *ASKING, *later)[-4:], expected)

    def test_load_works_again_after_a_refusal(self):
        self.assertEqual(run(load("course c"), load("mark c 0 0"), mark(0)), [[-1002], [1, 0, 0, 0], [0, 0, 0, 1, 99]])


class Interface(unittest.TestCase):
    calls = [
        number
        for call in [load(MIXED), move(0, 7, 7), move(1, 7, 7)] + ASKING + REFUSED
        + [load("foo"), load([300]), load(EXAMPLE), move(1, 3, 3), TEXT]
        for number in call
    ]

    def test_answers_stand_behind_how_many_they_are(self):
        self.assertEqual(answers([2]), [4, 0, 0, 0, 0])
        self.assertEqual(answers([1]), [1, 0])
        self.assertEqual(answers([3, 0, 4, 0, 5, 0, 6, 0]), [1, -2] * 4)
        self.assertEqual(answers([0, 0]), [4, 0, 0, 0, 0])
        self.assertEqual(answers([0, 1, 256, 0, 1, 65, 2]), [1, -1, 1, -1001, 4, 0, 0, 0, 0])
        self.assertEqual(answers(load("mark A 3 4") + [3, 0, 1]), [4, 1, 0, 0, 0, 5, 0, 3, 4, 1, 65, 12, 11] + list(b"mark A 3 4\n"))

    def test_the_calls_7_to_13_in_the_list(self):
        self.assertEqual(answers([7, 0, 7, 1, 65, 7, 1, 256]), [1, 0, 1, 0, 1, -1])
        self.assertEqual(answers([8, 0, 0, 8, 0, 1000001]), [1, 0, 1, -1])
        self.assertEqual(answers([9, 0, 0, 1, 1, 9, 0, 0, 1, -1000001]), [1, 0, 1, -1])
        self.assertEqual(answers([10, 0, 0, 0, 1, 1, 11, 0, 4, 0, 0, 1, 1, 11, 0, 0]), [1, -2, 1, -2, 1, -1])
        self.assertEqual(answers([12, 0, 12, 1, 5, 12, 4, 0, 0, 1, 1, 13, 0, 0, 0, 2]), [1, -1, 1, -1, 1, 0, 1, -2, 4, 0, 0, 0, 0])
        text = "mark A 9 9\nline S 0 0 4 0\nland L 1 1 3 1 1 3"
        calls = [find("A"), inside(1, 1), clear((0, 0), (9, 9)), crossing(0, (1, 1), (1, -2))]
        calls += [crossings(0, [(1, 1), (1, -2), (1, 1)]), met([(9, 9), (9, 8), (2, 1)]), move(0, 9, 8)]
        self.assertEqual(
            answers(load(text) + [number for call in calls for number in call]),
            [4, 1, 1, 1, 0, 2, 1, 0, 2, 2, 0, 2, 1, 0, 5, 1, 1, 3, 1, 4, 5, 2, 0, 1, 1, 2, 3, 1, 1, 0, 1, 0],
        )

    def test_answers_are_ints_and_never_bools(self):
        for number in answers(list(self.calls)):
            self.assertIs(type(number), int)

    def test_what_is_handed_in_stays(self):
        class Watched(list):
            def changed(self, *args, **kwargs):
                raise AssertionError("what is handed in is changed")
            append = extend = insert = pop = remove = clear = sort = reverse = changed
            __setitem__ = __delitem__ = __iadd__ = __imul__ = changed

        handed = Watched(self.calls)
        answers(handed)
        self.assertEqual(list(handed), self.calls)

    def test_what_is_given_back_is_a_new_list(self):
        calls = [2]
        given = answers(calls)
        self.assertIsNot(given, calls)
        given.append(7)
        self.assertEqual(answers(calls), [4, 0, 0, 0, 0])
        self.assertEqual(calls, [2])

    def test_nothing_is_kept(self):
        first = answers(list(self.calls))
        self.assertEqual(run(*ask_all()), [[0], [0, 0, 0, 0]] + [[-2]] * 56)
        self.assertEqual(answers(list(self.calls)), first)

    def test_100_calls(self):
        calls = [load("mark A 0 0"), load("foo")] * 49 + [TEXT, COUNTS]
        self.assertEqual(run(*calls), [[1, 0, 0, 0], [-1001]] * 49 + [name("mark A 0 0\n"), [1, 0, 0, 0]])

    def test_long_lists(self):
        lines = "\n" * 3980
        calls = [load(lines + "mark A 0 0"), load("#" * 3990), load(" " * 3990), load(lines + "mark B 1 0")]
        self.assertEqual(run(*calls, TEXT)[-1], name("mark B 1 0\n"))
        self.assertEqual(len(run(load(MIXED), *[TEXT] * 99)), 100)

    def test_long_rows(self):
        row = [(k % 2, k) for k in range(30)]
        calls = [load("line S 0 0 1 0")] + [crossings(0, row), met(row), find([65] * 60)] * 33
        self.assertEqual(run(*calls), [[0, 1, 0, 0]] + [[0], [0], [0]] * 33)

    def test_nothing_is_kept_of_a_move(self):
        calls = load(EXAMPLE) + move(0, 3, 3) + mark(0)
        expected = [4, 2, 1, 0, 1, 1, 0, 5, 0, 3, 3, 1, 65]
        self.assertEqual([answers(calls), answers(calls)], [expected, expected])
        self.assertEqual(answers(load(EXAMPLE) + mark(0)), [4, 2, 1, 0, 1, 5, 0, 0, 10, 1, 65])
        self.assertEqual(answers(move(0, 3, 3)), [1, -2])


if __name__ == "__main__":
    unittest.main()
