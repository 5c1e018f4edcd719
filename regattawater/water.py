"""Answers a list of calls on one water, which is empty at the list's beginning."""

from regattawater.chart import Chart, unfolded_legs
from regattawater.places import twice_area
from regattawater.reader import read_text
from regattawater.refusals import NoSuch, NotByte, WrongText
from regattawater.words import bytes_of
from regattawater.writer import write_text

LARGEST_BYTE = 255


# What one list of calls is about: load puts another chart in the place of the one before.
class Water:
    def __init__(self):
        self.chart = Chart()


def ask_for_bytes(row):
    for number in row:
        if number < 0 or number > LARGEST_BYTE:
            raise NotByte()


def thing_at(things, i):
    if i < 0 or i >= len(things):
        raise NoSuch()
    return things[i]


def counted_bytes(text):
    return [len(text)] + bytes_of(text)


def counts_of(chart):
    return [len(chart.marks), len(chart.lines), len(chart.lands), len(chart.courses)]


def answer_load(water, numbers, row):
    ask_for_bytes(row)
    water.chart = read_text(row)
    return counts_of(water.chart)


def answer_text(water, numbers, row):
    return counted_bytes(write_text(water.chart))


def answer_counts(water, numbers, row):
    return counts_of(water.chart)


def answer_mark(water, numbers, row):
    mark = thing_at(water.chart.marks, numbers[0])
    return [0] + list(mark.place) + counted_bytes(mark.name)


def answer_line(water, numbers, row):
    line = thing_at(water.chart.lines, numbers[0])
    return [0] + list(line.starboard_end) + list(line.port_end) + counted_bytes(line.name)


def answer_land(water, numbers, row):
    land = thing_at(water.chart.lands, numbers[0])
    answer = [0, twice_area(land.corners), len(land.corners)]
    for corner in land.corners:
        answer.extend(corner)
    return answer + counted_bytes(land.name)


def answer_course(water, numbers, row):
    course = thing_at(water.chart.courses, numbers[0])
    legs = unfolded_legs(course)
    answer = [course.start_line, course.finish_line, len(legs)]
    for leg in legs:
        answer.extend(leg)
    return answer + counted_bytes(course.name)


# For each call: how many whole numbers it has, whether a row stands behind them, what answers it.
CALLS = {
    0: (0, True, answer_load),
    1: (0, False, answer_text),
    2: (0, False, answer_counts),
    3: (1, False, answer_mark),
    4: (1, False, answer_line),
    5: (1, False, answer_land),
    6: (1, False, answer_course),
}


def answer_or_refuse(answerer, water, numbers, row):
    try:
        return answerer(water, numbers, row)
    except NotByte:
        return [-1]
    except NoSuch:
        return [-2]
    except WrongText as wrong:
        return [-1000 - wrong.number]


def answers(calls):
    water = Water()
    given = []
    at = 0
    while at < len(calls):
        call = CALLS[calls[at]]
        behind_numbers = at + 1 + call[0]
        numbers = calls[at + 1:behind_numbers]
        row = []
        at = behind_numbers
        if call[1]:
            at = behind_numbers + 1 + calls[behind_numbers]
            row = calls[behind_numbers + 1:at]
        answer = answer_or_refuse(call[2], water, numbers, row)
        given.append(len(answer))
        given.extend(answer)
    return given
