"""What a text tells of the water: marks, lines, lands and courses, each sort numbered from 0."""

from regattawater.places import on_land, way_meets_land

NONE = -1


class Mark:
    def __init__(self, name, place):
        self.name = name
        self.place = place


class Line:
    def __init__(self, name, starboard_end, port_end):
        self.name = name
        self.starboard_end = starboard_end
        self.port_end = port_end


class Land:
    def __init__(self, name, corners):
        self.name = name
        self.corners = corners


# Legs that are sailed some times over: laps, or (once) a leg outside of laps.
# A leg is the number of the mark that may be left to port, and of the one that may be left to starboard, or NONE.
class Stretch:
    def __init__(self, times):
        self.times = times
        self.legs = []


# Its lines are numbers of lines; each is NONE as long as it is not told.
class Course:
    def __init__(self, name):
        self.name = name
        self.start_line = NONE
        self.finish_line = NONE
        self.stretches = []


class Chart:
    def __init__(self):
        self.marks = []
        self.lines = []
        self.lands = []
        self.courses = []


def number_of_name(things, name):
    for k, thing in enumerate(things):
        if thing.name == name:
            return k
    return NONE


def first_land_at(chart, place):
    for k, land in enumerate(chart.lands):
        if on_land(place, land.corners):
            return k
    return NONE


def first_land_met(chart, a, b):
    for k, land in enumerate(chart.lands):
        if way_meets_land(a, b, land.corners):
            return k
    return NONE


def free_for_mark(chart, place):
    taken = any([mark.place == place for mark in chart.marks])
    return not taken and first_land_at(chart, place) == NONE


def unfolded_length(course):
    return sum([stretch.times * len(stretch.legs) for stretch in course.stretches])


def unfolded_legs(course):
    legs = []
    for stretch in course.stretches:
        for lap in range(stretch.times):
            legs.extend(stretch.legs)
    return legs
