"""Texts: lines, wrong bytes, remarks, words, names and numbers; what load refuses."""

import string
import unittest

from helper import EXAMPLE, HUGE, TEXT, Texts, load, loaded, mark, name, run, written


class Lines(Texts, unittest.TestCase):
    def test_empty_text(self):
        self.assert_right("", [0, 0, 0, 0])

    def test_last_line_needs_no_byte_10(self):
        self.assert_right("mark A 0 0", [1, 0, 0, 0])
        self.assert_right("mark A 0 0\n", [1, 0, 0, 0])
        self.assert_right("mark A 0 0\nmark B 1 0", [2, 0, 0, 0])

    def test_lines_that_say_nothing_are_counted(self):
        self.assert_right("\n\n   \n# remark\n", [0, 0, 0, 0])
        self.assert_wrong("\n   \n#\nfoo", 4)
        self.assert_wrong("foo", 1)
        self.assert_wrong("\nfoo\n\n", 2)

    def test_first_wrong_line_is_told(self):
        self.assert_wrong("mark A 0 0\nfoo\nmark A 0 0\n\t\n", 2)
        self.assert_wrong("mark A 0 0\n\t\nfoo\n", 2)

    def test_number_of_a_far_line(self):
        self.assert_wrong("\n" * 3996 + "foo", 3997)
        self.assert_wrong("\n" * 3999 + "x", 4000)

    def test_text_of_full_length(self):
        self.assert_right("mark A 0 0\n" + " " * 3989, [1, 0, 0, 0])
        self.assert_right("#" * 4000, [0, 0, 0, 0])
        self.assert_wrong("9" * 4000, 1)
        self.assert_wrong("mark A 0 " + "9" * 3991, 1)
        self.assert_wrong("mark A 0 -" + "0" * 3990, 1)


class Bytes(Texts, unittest.TestCase):
    def test_bytes_out_of_print_are_wrong(self):
        for byte in list(range(0, 10)) + list(range(11, 32)) + list(range(127, 256)):
            self.assert_wrong([10, byte], 2)
            self.assert_wrong(numbers("mark A 0 0 # ") + [byte, 10], 1)
            self.assert_wrong(numbers("mark A 0 0") + [byte, 10], 1)

    def test_bytes_in_print_may_stand_in_a_remark(self):
        for byte in range(32, 127):
            self.assert_right(numbers("mark A 0 0#") + [byte, 10], [1, 0, 0, 0])

    def test_numbers_that_are_no_bytes(self):
        for number in (-1, 256, 1000, -HUGE, HUGE):
            for text in ([number], numbers("mark A 0 0\n") + [number], [number] + numbers("foo\n")):
                self.assertEqual(loaded(text), [-1], text)

    def test_not_a_byte_goes_before_a_wrong_line(self):
        self.assertEqual(loaded(numbers("foo\nbar\n") + [256]), [-1])
        self.assertEqual(loaded(numbers("course A\n") + [-1]), [-1])
        self.assertEqual(loaded([0, 255, 35]), [-1001])


class Words(Texts, unittest.TestCase):
    def test_any_number_of_blanks(self):
        self.assertEqual(written("   mark    A  0    0   \n"), "mark A 0 0\n")

    def test_remarks_count_as_nothing(self):
        self.assertEqual(written("mark A 0 0# 1\n#mark B 1 1\n  # x # y\nmark C 2 2 ## mark"), "mark A 0 0\nmark C 2 2\n")

    def test_remark_cuts_a_word(self):
        self.assertEqual(written("mark A 0 12#3\n"), "mark A 0 12\n")
        self.assert_line_wrong("mark A 0 #1")
        self.assert_line_wrong("ma#rk A 0 0")

    def test_words_are_taken_as_they_stand(self):
        for wrong in ("Mark A 0 0", "MARK A 0 0", "marks A 0 0", "mar A 0 0", "A", "-", "?", "%", "mark\\ A 0 0"):
            self.assert_line_wrong(wrong)

    def test_words_missing_or_too_many(self):
        for wrong in (
            "mark", "mark A", "mark A 0", "mark A 0 0 0", "mark A 0 0 mark B 1 1",
            "line", "line A", "line A 0", "line A 0 0", "line A 0 0 1", "line A 0 0 1 1 1", "line A 0 0 1 1 2 2",
            "land", "land A", "land A 0", "land A 0 0 1 1 2", "land A 0 0 4 0 0 4 1",
            "course", "course A B",
        ):
            self.assert_line_wrong(wrong)


class Names(Texts, unittest.TestCase):
    def test_letters_and_digits_alone(self):
        for byte in range(33, 127):
            if byte == 35:
                continue
            sign = chr(byte)
            text = f"mark {sign} 0 0\n"
            inner = f"mark a{sign}9 0 0\n"
            if sign in string.ascii_letters + string.digits:
                self.assertEqual(run(load(text), mark(0)), [[1, 0, 0, 0], [0, 0, 0, 1, byte]])
                self.assertEqual(run(load(inner), mark(0))[1], [0, 0, 0, 3, 97, byte, 57])
                self.assertEqual(run(load(text), TEXT)[1], name(text))
            else:
                self.assert_wrong(text, 1)
                self.assert_wrong(inner, 1)

    def test_length(self):
        for length in range(1, 13):
            self.assertEqual(run(load("mark " + "n" * length + " 0 0"), mark(0))[1], [0, 0, 0] + name("n" * length))
        for length in (13, 14, 100):
            self.assert_line_wrong("mark " + "n" * length + " 0 0")

    def test_every_sort_of_name(self):
        long_name = "abcdefABCD09"
        lands = " 10 10 11 10 10 11"
        for before, behind, counts in (
            ("mark ", " 0 0", [1, 0, 0, 0]),
            ("line ", " 0 0 1 1", [0, 1, 0, 0]),
            ("land ", lands, [0, 0, 1, 0]),
        ):
            self.assert_right(before + long_name + behind, counts)
            for wrong in (long_name + "x", "a-b", "a_b", "-", "a.b", "%"):
                self.assert_line_wrong(before + wrong + behind)
        for wrong in (long_name + "x", "a-b", "a_b", "-", "a.b", "%"):
            self.assert_line_wrong("course " + wrong)
        self.assert_wrong("course " + long_name, 2)

    def test_names_like_words_of_the_text(self):
        text = (
            "mark mark 0 0\nmark port 1 1\nmark 007 2 2\nline start 0 0 1 1\nline line 0 0 1 1\n"
            "course end\nstart start\nround mark port\nround port starboard\ngate 007 port\nfinish line\nend\n"
        )
        self.assertEqual(written(text), text)

    def test_case_makes_another_name(self):
        self.assert_right("mark a 0 0\nmark A 1 0\n", [2, 0, 0, 0])

    def test_names_are_new_over_all_sorts(self):
        told = {
            "mark": "mark N 0 0\n",
            "line": "line N 0 0 1 1\n",
            "land": "land N 10 10 11 10 10 11\n",
            "course": "line Q 0 0 1 1\ncourse N\nstart Q\nfinish Q\nend\n",
        }
        again = {"mark": "mark N 5 5", "line": "line N 5 5 6 6", "land": "land N 20 20 21 20 20 21", "course": "course N"}
        for before in told.values():
            for wrong in again.values():
                self.assert_line_wrong(wrong, before)

    def test_names_are_free_again_with_another_load(self):
        self.assertEqual(run(load("mark A 0 0"), load("line A 0 0 1 1")), [[1, 0, 0, 0], [0, 1, 0, 0]])


class Numbers(Texts, unittest.TestCase):
    right = (0, 1, -1, 9, 10, -10, 100, 999999, -999999, 1000000, -1000000)
    wrong = (
        "-0", "00", "01", "-01", "007", "+1", "+0", "1000001", "-1000001", "1000010", "9999999", "10000000",
        "01000000", "0000000", "-", "--1", "1-", "1.0", "1e3", "0x1", "1_0", "x", "1,", "-x", "%", "'1'",
    )

    def test_right_numbers(self):
        for number in self.right:
            text = f"mark A {number} 0\nmark B 3 {number}\nline L {number} 7 3 {number}\nland M 7 7 9 7 8 9\n"
            if (number, 0) == (3, number):
                continue
            self.assertEqual(written(text), text)
            answered = run(load(text), mark(0), mark(1), [4, 0])
            self.assertEqual(answered[1], [0, number, 0, 1, 65])
            self.assertEqual(answered[2], [0, 3, number, 1, 66])
            self.assertEqual(answered[3], [0, number, 7, 3, number, 1, 76])

    def test_wrong_numbers(self):
        for word in self.wrong:
            for wrong in (
                f"mark A {word} 0", f"mark A 0 {word}",
                f"line A {word} 0 5 5", f"line A 0 {word} 5 5", f"line A 5 5 {word} 0", f"line A 5 5 0 {word}",
                f"land A {word} 0 5 5 7 0", f"land A 0 0 5 {word} 7 0", f"land A 0 0 5 5 7 {word}",
            ):
                self.assert_line_wrong(wrong)


def numbers(text):
    return list(text.encode("ascii"))


class Example(unittest.TestCase):
    def test_example_is_written_as_it_stands(self):
        self.assertEqual(written(EXAMPLE), EXAMPLE)


if __name__ == "__main__":
    unittest.main()
