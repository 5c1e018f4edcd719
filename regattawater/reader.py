"""Reads a text: gives the chart that it tells, or the number of its first wrong line."""

from regattawater.chart import NONE, Chart, Course, Land, Line, Mark, Stretch
from regattawater.chart import free_for_mark, number_of_name, unfolded_length
from regattawater.places import is_simple, on_land
from regattawater.refusals import WrongLine, WrongText
from regattawater.words import lines_of, read_name, read_number, read_places, words_of

MOST_MARKS = 24
MOST_LINES = 8
MOST_LANDS = 8
MOST_COURSES = 8
FEWEST_CORNERS = 3
MOST_CORNERS = 20
FEWEST_LAPS = 2
MOST_LAPS = 9
MOST_LEGS = 30


# The chart as far as it is read; the course and the laps in it that have begun and not ended, or None.
class Reading:
    def __init__(self):
        self.chart = Chart()
        self.course = None
        self.laps = None


def ask_for(holds):
    if not holds:
        raise WrongLine()


def read_new_name(chart, word):
    name = read_name(word)
    for things in (chart.marks, chart.lines, chart.lands, chart.courses):
        ask_for(number_of_name(things, name) == NONE)
    return name


def read_told_name(things, word):
    number = number_of_name(things, word)
    ask_for(number != NONE)
    return number


def read_mark(reading, words):
    chart = reading.chart
    ask_for(len(words) == 4 and len(chart.marks) < MOST_MARKS)
    name = read_new_name(chart, words[1])
    place = read_places(words[2:])[0]
    ask_for(free_for_mark(chart, place))
    chart.marks.append(Mark(name, place))


def read_line(reading, words):
    chart = reading.chart
    ask_for(len(words) == 6 and len(chart.lines) < MOST_LINES)
    name = read_new_name(chart, words[1])
    ends = read_places(words[2:])
    ask_for(ends[0] != ends[1])
    chart.lines.append(Line(name, ends[0], ends[1]))


def read_land(reading, words):
    chart = reading.chart
    ask_for(len(words) >= 2 and len(chart.lands) < MOST_LANDS)
    name = read_new_name(chart, words[1])
    corners = read_places(words[2:])
    ask_for(FEWEST_CORNERS <= len(corners) <= MOST_CORNERS)
    ask_for(is_simple(corners))
    ask_for(not any([on_land(mark.place, corners) for mark in chart.marks]))
    chart.lands.append(Land(name, corners))


def read_course(reading, words):
    chart = reading.chart
    ask_for(len(words) == 2 and len(chart.courses) < MOST_COURSES)
    reading.course = Course(read_new_name(chart, words[1]))
    chart.courses.append(reading.course)


def read_start(reading, words):
    ask_for(len(words) == 2)
    reading.course.start_line = read_told_name(reading.chart.lines, words[1])


def add_leg(reading, leg):
    stretch = reading.laps
    if stretch is None:
        stretch = Stretch(1)
        reading.course.stretches.append(stretch)
    stretch.legs.append(leg)
    ask_for(unfolded_length(reading.course) <= MOST_LEGS)


def read_round(reading, words):
    ask_for(len(words) == 3 and words[2] in ("port", "starboard"))
    mark = read_told_name(reading.chart.marks, words[1])
    add_leg(reading, (mark, NONE) if words[2] == "port" else (NONE, mark))


def read_gate(reading, words):
    ask_for(len(words) == 3)
    port = read_told_name(reading.chart.marks, words[1])
    starboard = read_told_name(reading.chart.marks, words[2])
    ask_for(port != starboard)
    add_leg(reading, (port, starboard))


def read_laps(reading, words):
    ask_for(len(words) == 2 and reading.laps is None)
    times = read_number(words[1])
    ask_for(FEWEST_LAPS <= times <= MOST_LAPS)
    reading.laps = Stretch(times)
    reading.course.stretches.append(reading.laps)


def read_done(reading, words):
    ask_for(len(words) == 1 and reading.laps is not None)
    ask_for(len(reading.laps.legs) > 0)
    reading.laps = None


def read_finish(reading, words):
    ask_for(len(words) == 2 and reading.laps is None)
    reading.course.finish_line = read_told_name(reading.chart.lines, words[1])


def read_end(reading, words):
    ask_for(len(words) == 1)
    reading.course = None


OUTSIDE = {"mark": read_mark, "line": read_line, "land": read_land, "course": read_course}
BEFORE_START = {"start": read_start}
BEFORE_FINISH = {
    "round": read_round, "gate": read_gate, "laps": read_laps, "done": read_done, "finish": read_finish,
}
BEFORE_END = {"end": read_end}


# Which lines may stand here depends on how far the course has come: gives the one to be read by, or None.
def reader_here(course, word):
    if course is None:
        return OUTSIDE.get(word)
    if course.start_line == NONE:
        return BEFORE_START.get(word)
    if course.finish_line == NONE:
        return BEFORE_FINISH.get(word)
    return BEFORE_END.get(word)


def read_words(reading, words):
    if len(words) > 0:
        reader = reader_here(reading.course, words[0])
        ask_for(reader is not None)
        reader(reading, words)


def read_text(text):
    reading = Reading()
    lines = lines_of(text)
    for k, line in enumerate(lines):
        try:
            read_words(reading, words_of(line))
        except WrongLine:
            raise WrongText(k + 1) from None
    if reading.course is not None:
        raise WrongText(len(lines) + 1)
    return reading.chart
