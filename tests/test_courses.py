"""Courses: their lines in their order, laps, the limits, and the call that asks for them."""

import unittest

from helper import EXAMPLE, HUGE, Texts, course, line, load, mark, name, run, written

SHORE = "mark A 0 0\nmark B 9 9\nline S 0 1 1 1\nline F 5 5 6 6\nland L 20 20 29 20 20 29\n"


def around(inner, called="c"):
    """The shore, and behind it a course with these lines between start and finish."""
    return SHORE + f"course {called}\nstart S\n{inner}finish F\nend\n"


class Answers(unittest.TestCase):
    def test_example(self):
        given = run(load(EXAMPLE), [2], mark(0), mark(1), line(0), course(0), [1])
        self.assertEqual(given[0], [2, 1, 0, 1])
        self.assertEqual(given[1], [2, 1, 0, 1])
        self.assertEqual(given[2], [0, 0, 10, 1, 65])
        self.assertEqual(given[3], [0, 5, 0, 1, 66])
        self.assertEqual(given[4], [0, 10, -5, -10, -5, 1, 83])
        self.assertEqual(given[5], [0, 0, 4, 0, -1, 1, 0, 0, -1, 1, 0] + name("one"))
        self.assertEqual(given[6], name(EXAMPLE))

    def test_every_element(self):
        inner = "round A port\nround A starboard\nround B port\nround B starboard\ngate A B\ngate B A\n"
        self.assertEqual(
            run(load(around(inner)), course(0))[1],
            [0, 1, 6, 0, -1, -1, 0, 1, -1, -1, 1, 0, 1, 1, 0, 1, 99],
        )

    def test_no_element(self):
        self.assertEqual(run(load(around("")), course(0))[1], [0, 1, 0, 1, 99])

    def test_start_and_finish_may_be_one_line(self):
        text = SHORE + "course c\nstart F\nfinish F\nend\n"
        self.assertEqual(run(load(text), course(0))[1], [1, 1, 0, 1, 99])

    def test_laps_between_elements(self):
        inner = "round A port\nlaps 3\nround B port\ndone\nround A starboard\nlaps 2\ngate A B\nround A port\ndone\n"
        legs = [0, -1, 1, -1, 1, -1, 1, -1, -1, 0, 0, 1, 0, -1, 0, 1, 0, -1]
        self.assertEqual(run(load(around(inner)), course(0))[1], [0, 1, 9] + legs + [1, 99])
        self.assertEqual(written(around(inner)), around(inner))

    def test_no_such_course(self):
        self.assertEqual(run(course(0)), [[-2]])
        for i in (-1, 1, 2, HUGE, -HUGE):
            self.assertEqual(run(load(EXAMPLE), course(i))[1], [-2])

    def test_several_courses(self):
        text = around("") + "course d\nstart F\nround A port\nfinish S\nend\nmark C 50 50\n"
        given = run(load(text), course(0), course(1), course(2), mark(2))
        self.assertEqual(given[0], [3, 2, 1, 2])
        self.assertEqual(given[1], [0, 1, 0, 1, 99])
        self.assertEqual(given[2], [1, 0, 1, 0, -1, 1, 100])
        self.assertEqual(given[3], [-2])
        self.assertEqual(given[4], [0, 50, 50, 1, 67])


class WrongLines(Texts, unittest.TestCase):
    """At each stage of a course, which lines are right there: all others are wrong."""

    outside = ("mark X 90 90", "line X 0 0 1 1", "land X 80 80 81 80 80 81", "course X")
    sailing = ("round A port", "round B starboard", "gate A B", "laps 2")
    every = outside + sailing + ("start S", "done", "finish F", "end")
    never = (
        "foo", "START S", "start", "start S S", "start A", "start L", "start c", "start none",
        "round", "round A", "round A left", "round A Port", "round A port port", "round S port", "round L port",
        "round c port", "round none port", "round port A", "round A port starboard",
        "gate", "gate A", "gate A A", "gate A S", "gate S A", "gate A none", "gate none A", "gate A B A", "gate L c",
        "laps", "laps 0", "laps 1", "laps 10", "laps 02", "laps -2", "laps +2", "laps x", "laps 2 2", "laps 1000000",
        "laps 99999999999999999999", "done done", "done 2", "finish", "finish A", "finish L", "finish none",
        "finish c", "finish F F", "end end", "end c",
    )

    def check(self, before, right):
        for wrong in self.never:
            self.assert_line_wrong(wrong, before)
        for told in self.every:
            if told in right:
                self.assert_goes_on(told, before)
            else:
                self.assert_line_wrong(told, before)

    def assert_goes_on(self, told, before):
        """Right itself: the line behind it is the first that is wrong."""
        self.assert_wrong(before + told + "\n# nothing\n\nfoo\n", before.count("\n") + 4)

    def test_outside(self):
        self.check(SHORE, self.outside)
        self.check(around(""), self.outside)

    def test_behind_course(self):
        self.check(SHORE + "course c\n", ("start S",))

    def test_behind_start(self):
        self.check(SHORE + "course c\nstart S\n", self.sailing + ("finish F",))

    def test_behind_an_element(self):
        self.check(SHORE + "course c\nstart S\nround A port\n", self.sailing + ("finish F",))
        self.check(SHORE + "course c\nstart S\ngate A B\n", self.sailing + ("finish F",))

    def test_behind_laps(self):
        self.check(SHORE + "course c\nstart S\nlaps 2\n", ("round A port", "round B starboard", "gate A B"))

    def test_within_laps(self):
        right = ("round A port", "round B starboard", "gate A B", "done")
        self.check(SHORE + "course c\nstart S\nlaps 2\nround A port\n", right)

    def test_behind_done(self):
        self.check(SHORE + "course c\nstart S\nlaps 2\nround A port\ndone\n", self.sailing + ("finish F",))

    def test_behind_finish(self):
        self.check(SHORE + "course c\nstart S\nround A port\nfinish F\n", ("end",))

    def test_laps_of_2_to_9(self):
        for times in range(2, 10):
            text = around(f"laps {times}\nround A port\ndone\n")
            self.assertEqual(run(load(text), course(0))[1], [0, 1, times] + [0, -1] * times + [1, 99])
            self.assertEqual(written(text), text)

    def test_nothing_is_named_before_it_is_told(self):
        self.assert_wrong("course c\nstart S\nfinish S\nend\nline S 0 0 1 1\n", 2)
        text = "line S 0 0 1 1\ncourse c\nstart S\nround A port\nfinish S\nend\nmark A 0 0\n"
        self.assert_wrong(text, 4)

    def test_blank_lines_and_remarks_within_a_course(self):
        text = around("  # go\n\n laps   2 # twice\n\n round  A  port#\n\n  done\n\n")
        self.assertEqual(written(text), around("laps 2\nround A port\ndone\n"))


class TextEnds(Texts, unittest.TestCase):
    def test_within_a_course(self):
        lines = around("laps 2\nround A port\ndone\n").splitlines()
        begun = SHORE.count("\n")
        for count in range(begun + 1, len(lines)):
            told = "\n".join(lines[:count])
            self.assert_wrong(told, count + 1)
            self.assert_wrong(told + "\n", count + 1)
            self.assert_wrong(told + "\n\n", count + 2)
            self.assert_wrong(told + "\n ", count + 2)
        self.assert_right("\n".join(lines), [2, 2, 1, 1])
        self.assert_right("\n".join(lines[:begun]), [2, 2, 1, 0])

    def test_first_line(self):
        self.assert_wrong("course c", 2)
        self.assert_wrong("course c\n", 2)

    def test_a_wrong_line_goes_before_the_end(self):
        self.assert_wrong("course c\nfoo\n", 2)
        self.assert_wrong("foo\ncourse c\n", 1)


class Limits(Texts, unittest.TestCase):
    def inside(self, inner):
        return SHORE + "course c\nstart S\n" + inner

    def test_8_courses(self):
        text = SHORE + "".join([f"course c{k}\nstart S\nfinish F\nend\n" for k in range(8)])
        self.assert_right(text, [2, 2, 1, 8])
        self.assertEqual(run(load(text), course(7), course(8))[1:], [[0, 1, 0, 2, 99, 55], [-2]])
        self.assert_line_wrong("course c8", text)
        self.assert_right(text + "mark C 90 90\n", [3, 2, 1, 8])

    def test_30_elements(self):
        inner = "round A port\n" * 29 + "gate A B\n"
        self.assert_right(around(inner), [2, 2, 1, 1])
        self.assertEqual(run(load(around(inner)), course(0))[1], [0, 1, 30] + [0, -1] * 29 + [0, 1, 1, 99])
        for wrong in ("round A port", "round A starboard", "gate A B"):
            self.assert_line_wrong(wrong, self.inside(inner))

    def test_laps_in_full(self):
        for times in range(2, 10):
            fits = 30 // times
            inner = f"laps {times}\n" + "round A port\n" * fits
            self.assertEqual(run(load(around(inner + "done\n")), course(0))[1][2], times * fits)
            self.assert_line_wrong("round A port", self.inside(inner))
            self.assert_line_wrong("gate A B", self.inside(inner))

    def test_laps_behind_elements(self):
        inner = "round A port\n" * 21 + "laps 9\nround B port\n"
        self.assert_right(around(inner + "done\n"), [2, 2, 1, 1])
        self.assert_line_wrong("round B port", self.inside(inner))
        self.assert_line_wrong("round B port", self.inside(inner + "done\n"))
        self.assert_line_wrong("round B port", self.inside("round A port\n" * 22 + "laps 9\n"))

    def test_laps_behind_laps(self):
        inner = "laps 9\nround A port\nround B port\ndone\nlaps 6\nround A port\n"
        self.assert_right(around(inner + "round B port\ndone\n"), [2, 2, 1, 1])
        self.assert_line_wrong("gate A B", self.inside(inner + "round B port\n"))
        self.assert_line_wrong("gate A B", self.inside(inner + "round B port\ndone\n"))

    def test_laps_alone_add_nothing(self):
        inner = "round A port\n" * 30 + "laps 2\n"
        self.assert_line_wrong("round A port", self.inside(inner))
        self.assert_line_wrong("done", self.inside(inner))

    def test_each_course_counts_by_itself(self):
        text = SHORE
        for k in range(3):
            text += f"course c{k}\nstart S\nlaps 5\n" + "gate A B\n" * 6 + "done\nfinish F\nend\n"
        self.assert_right(text, [2, 2, 1, 3])
        self.assertEqual([given[2] for given in run(load(text), course(0), course(1), course(2))[1:]], [30, 30, 30])


if __name__ == "__main__":
    unittest.main()
