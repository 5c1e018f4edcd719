"""Writes a chart as a text, in the one way in which the water is written."""

from regattawater.chart import NONE


def join_words(words):
    return " ".join([str(word) for word in words])


def place_words(places):
    words = []
    for place in places:
        words.append(place[0])
        words.append(place[1])
    return words


def mark_line(mark):
    return join_words(["mark", mark.name] + place_words([mark.place]))


def line_line(line):
    return join_words(["line", line.name] + place_words([line.starboard_end, line.port_end]))


def land_line(land):
    return join_words(["land", land.name] + place_words(land.corners))


def leg_line(chart, leg):
    if leg[1] == NONE:
        return join_words(["round", chart.marks[leg[0]].name, "port"])
    if leg[0] == NONE:
        return join_words(["round", chart.marks[leg[1]].name, "starboard"])
    return join_words(["gate", chart.marks[leg[0]].name, chart.marks[leg[1]].name])


def stretch_lines(chart, stretch):
    legs = [leg_line(chart, leg) for leg in stretch.legs]
    if stretch.times == 1:
        return legs
    return [join_words(["laps", stretch.times])] + legs + ["done"]


def course_lines(chart, course):
    lines = [join_words(["course", course.name])]
    lines.append(join_words(["start", chart.lines[course.start_line].name]))
    for stretch in course.stretches:
        lines.extend(stretch_lines(chart, stretch))
    lines.append(join_words(["finish", chart.lines[course.finish_line].name]))
    lines.append("end")
    return lines


def write_text(chart):
    lines = [mark_line(mark) for mark in chart.marks]
    lines.extend([line_line(line) for line in chart.lines])
    lines.extend([land_line(land) for land in chart.lands])
    for course in chart.courses:
        lines.extend(course_lines(chart, course))
    return "".join([line + "\n" for line in lines])
