"""Answers a list of calls on one water, which is empty at the list's beginning."""

from regattawater.chart import NONE, Chart, first_land_at, first_land_met, free_for_mark, unfolded_legs
from regattawater.crossings import NOT_CROSSED, crossing_of
from regattawater.places import FARTHEST, on_border, pair_up, twice_area, ways_along
from regattawater.reader import read_text
from regattawater.refusals import NoSuch, NotByte, NotPlace, TakenPlace, WrongText
from regattawater.words import bytes_of
from regattawater.writer import write_text

LARGEST_BYTE = 255
FEWEST_IN_ROW = 2

WITHIN = 1
ON_BORDER = 2


# What one list of calls is about: load puts another chart in the place of the one before.
class Water:
    def __init__(self):
        self.chart = Chart()


def ask_for_bytes(row):
    for number in row:
        if number < 0 or number > LARGEST_BYTE:
            raise NotByte()


def places_of(numbers):
    for number in numbers:
        if abs(number) > FARTHEST:
            raise NotPlace()
    return pair_up(numbers)


def ways_of_row(row):
    if len(row) % 2 != 0 or len(row) < 2 * FEWEST_IN_ROW:
        raise NotPlace()
    return ways_along(places_of(row))


def thing_at(things, i):
    if i < 0 or i >= len(things):
        raise NoSuch()
    return things[i]


def counted_bytes(text):
    return [len(text)] + bytes_of(text)


def counts_of(chart):
    return [len(chart.marks), len(chart.lines), len(chart.lands), len(chart.courses)]


def answer_load(water, numbers, row):
    ask_for_bytes(row)
    water.chart = read_text(row)
    return counts_of(water.chart)


def answer_text(water, numbers, row):
    return counted_bytes(write_text(water.chart))


def answer_counts(water, numbers, row):
    return counts_of(water.chart)


def answer_mark(water, numbers, row):
    mark = thing_at(water.chart.marks, numbers[0])
    return [0] + list(mark.place) + counted_bytes(mark.name)


def answer_line(water, numbers, row):
    line = thing_at(water.chart.lines, numbers[0])
    return [0] + list(line.starboard_end) + list(line.port_end) + counted_bytes(line.name)


def answer_land(water, numbers, row):
    land = thing_at(water.chart.lands, numbers[0])
    answer = [0, twice_area(land.corners), len(land.corners)]
    for corner in land.corners:
        answer.extend(corner)
    return answer + counted_bytes(land.name)


def answer_course(water, numbers, row):
    course = thing_at(water.chart.courses, numbers[0])
    legs = unfolded_legs(course)
    answer = [course.start_line, course.finish_line, len(legs)]
    for leg in legs:
        answer.extend(leg)
    return answer + counted_bytes(course.name)


def answer_find(water, numbers, row):
    ask_for_bytes(row)
    chart = water.chart
    for sort_number, things in enumerate((chart.marks, chart.lines, chart.lands, chart.courses), start=1):
        for k, thing in enumerate(things):
            if bytes_of(thing.name) == row:
                return [sort_number, k]
    return [0]


def answer_inside(water, numbers, row):
    place = places_of(numbers)[0]
    land = first_land_at(water.chart, place)
    if land == NONE:
        return [0]
    return [ON_BORDER if on_border(place, water.chart.lands[land].corners) else WITHIN, land]


def answer_clear(water, numbers, row):
    ends = places_of(numbers)
    land = first_land_met(water.chart, ends[0], ends[1])
    return [0] if land == NONE else [1, land]


def answer_crossing(water, numbers, row):
    ends = places_of(numbers[1:])
    return crossing_of(thing_at(water.chart.lines, numbers[0]), ends[0], ends[1])


def answer_crossings(water, numbers, row):
    ways = ways_of_row(row)
    line = thing_at(water.chart.lines, numbers[0])
    told = []
    for k, way in enumerate(ways):
        sense = crossing_of(line, way[0], way[1])[0]
        if sense != NOT_CROSSED:
            told.append((k, sense))
    answer = [len(told)]
    for pair in told:
        answer.extend(pair)
    return answer


def answer_met(water, numbers, row):
    for k, way in enumerate(ways_of_row(row)):
        land = first_land_met(water.chart, way[0], way[1])
        if land != NONE:
            return [1, k, land]
    return [0]


def answer_move(water, numbers, row):
    place = places_of(numbers[1:])[0]
    mark = thing_at(water.chart.marks, numbers[0])
    # A mark doesn't take its own place from itself.
    if mark.place != place:
        if not free_for_mark(water.chart, place):
            raise TakenPlace()
        mark.place = place
    return [0]


# For each call: how many whole numbers it has, whether a row stands behind them, what answers it.
CALLS = {
    0: (0, True, answer_load),
    1: (0, False, answer_text),
    2: (0, False, answer_counts),
    3: (1, False, answer_mark),
    4: (1, False, answer_line),
    5: (1, False, answer_land),
    6: (1, False, answer_course),
    7: (0, True, answer_find),
    8: (2, False, answer_inside),
    9: (4, False, answer_clear),
    10: (5, False, answer_crossing),
    11: (1, True, answer_crossings),
    12: (0, True, answer_met),
    13: (3, False, answer_move),
}


def answer_or_refuse(answerer, water, numbers, row):
    try:
        return answerer(water, numbers, row)
    except NotByte:
        return [-1]
    except NotPlace:
        return [-1]
    except NoSuch:
        return [-2]
    except TakenPlace:
        return [-3]
    except WrongText as wrong:
        return [-1000 - wrong.number]


def answers(calls):
    water = Water()
    given = []
    at = 0
    while at < len(calls):
        call = CALLS[calls[at]]
        behind_numbers = at + 1 + call[0]
        numbers = calls[at + 1:behind_numbers]
        row = []
        at = behind_numbers
        if call[1]:
            at = behind_numbers + 1 + calls[behind_numbers]
            row = calls[behind_numbers + 1:at]
        answer = answer_or_refuse(call[2], water, numbers, row)
        given.append(len(answer))
        given.extend(answer)
    return given
