"""How a way crosses a line, and where, in fractions of whole numbers."""

from regattawater.places import turn

NOT_CROSSED = 0
ONWARD = 1
BACK = 2


# What is in line counts with the left: so a way that is cut there crosses in one of its parts alone.
def sense_of(line, a, b):
    begins_right = turn(line.starboard_end, line.port_end, a) < 0
    ends_right = turn(line.starboard_end, line.port_end, b) < 0
    if begins_right == ends_right:
        return NOT_CROSSED
    return ONWARD if ends_right else BACK


def common_divisor(one, other):
    while other != 0:
        rest = one % other
        one = other
        other = rest
    return one


def lowest_terms(upper, lower):
    divisor = common_divisor(abs(upper), abs(lower))
    if lower < 0:
        divisor = -divisor
    return [upper // divisor, lower // divisor]


# How far along the way from a to b it comes to what is in line with c and d. The two ways don't go alongside.
def how_far(a, b, c, d):
    begin = turn(c, d, a)
    end = turn(c, d, b)
    return lowest_terms(begin, begin - end)


# The sense alone if the way doesn't cross the line; else also how far along the way and how far along the line.
def crossing_of(line, a, b):
    sense = sense_of(line, a, b)
    if sense == NOT_CROSSED:
        return [NOT_CROSSED]
    along_line = how_far(line.starboard_end, line.port_end, a, b)
    if along_line[0] < 0 or along_line[0] > along_line[1]:
        return [NOT_CROSSED]
    return [sense] + how_far(a, b, line.starboard_end, line.port_end) + along_line
