"""Places and ways, and the lands that ways lead round. A place is a tuple of x (east) and y (north)."""

# No place lies farther east, west, north or south than this.
FARTHEST = 1000000


# The numbers are x and y of one place behind another.
def pair_up(numbers):
    return [(numbers[k], numbers[k + 1]) for k in range(0, len(numbers), 2)]


def ways_along(places):
    return [(places[k], places[k + 1]) for k in range(len(places) - 1)]


# Above 0 if the place lies left of the way from a to b, below 0 if right of it, 0 if in line with it.
def turn(a, b, place):
    return (b[0] - a[0]) * (place[1] - a[1]) - (b[1] - a[1]) * (place[0] - a[0])


def lies_between(number, one, other):
    return min(one, other) <= number <= max(one, other)


def on_way(place, a, b):
    if turn(a, b, place) != 0:
        return False
    return lies_between(place[0], a[0], b[0]) and lies_between(place[1], a[1], b[1])


def on_both_sides(one, other):
    return (one > 0 and other < 0) or (one < 0 and other > 0)


def ways_meet(a, b, c, d):
    if on_way(c, a, b) or on_way(d, a, b) or on_way(a, c, d) or on_way(b, c, d):
        return True
    # No end lies on the other way, so they can only meet where each leads from one side of the other to its other side.
    parts_ends = on_both_sides(turn(a, b, c), turn(a, b, d))
    return parts_ends and on_both_sides(turn(c, d, a), turn(c, d, b))


def sides_of(corners):
    count = len(corners)
    return [(corners[k], corners[(k + 1) % count]) for k in range(count)]


def twice_area(corners):
    return sum([a[0] * b[1] - b[0] * a[1] for a, b in sides_of(corners)])


def side_folds_back(first, second):
    return on_way(second[1], first[0], first[1]) or on_way(first[0], second[0], second[1])


def sides_clash(sides, i, j):
    if j == i + 1:
        return side_folds_back(sides[i], sides[j])
    if i == 0 and j == len(sides) - 1:
        return side_folds_back(sides[j], sides[i])
    return ways_meet(sides[i][0], sides[i][1], sides[j][0], sides[j][1])


def is_simple(corners):
    sides = sides_of(corners)
    for j in range(len(sides)):
        for i in range(j):
            if sides_clash(sides, i, j):
                return False
    return True


def on_border(place, corners):
    for a, b in sides_of(corners):
        if on_way(place, a, b):
            return True
    return False


# Asked of a place that is not on the border: on it the count of the sides to the east says nothing.
def sides_go_round(place, corners):
    goes_round = False
    for a, b in sides_of(corners):
        leads_up = a[1] <= place[1] < b[1]
        leads_down = b[1] <= place[1] < a[1]
        if leads_up and turn(a, b, place) > 0:
            goes_round = not goes_round
        if leads_down and turn(a, b, place) < 0:
            goes_round = not goes_round
    return goes_round


def on_land(place, corners):
    return on_border(place, corners) or sides_go_round(place, corners)


def way_meets_land(a, b, corners):
    for c, d in sides_of(corners):
        if ways_meet(a, b, c, d):
            return True
    # It meets no side, so all of it lies within the land or none: its beginning tells which.
    return sides_go_round(a, corners)
