"""What the tests share: calls written shortly, answers taken apart, and places looked at by another road."""

from fractions import Fraction

from regattawater.water import answers

EXAMPLE = (
    "mark A 0 10\n"
    "mark B 5 0\n"
    "line S 10 -5 -10 -5\n"
    "course one\n"
    "start S\n"
    "laps 2\n"
    "round A port\n"
    "gate B A\n"
    "done\n"
    "finish S\n"
    "end\n"
)

TEXT = [1]
COUNTS = [2]
HUGE = 10 ** 18


def numbers_of(text):
    return list(text.encode("latin-1")) if isinstance(text, str) else list(text)


def load(text):
    numbers = numbers_of(text)
    return [0, len(numbers)] + numbers


def mark(i):
    return [3, i]


def line(i):
    return [4, i]


def land(i):
    return [5, i]


def course(i):
    return [6, i]


def find(text):
    numbers = numbers_of(text)
    return [7, len(numbers)] + numbers


def inside(x, y):
    return [8, x, y]


def clear(a, b):
    return [9, *a, *b]


def crossing(i, a, b):
    return [10, i, *a, *b]


def flat(places):
    return [number for place in places for number in place]


def crossings(i, places):
    return [11, i, 2 * len(places)] + flat(places)


def met(places):
    return [12, 2 * len(places)] + flat(places)


def move(i, x, y):
    return [13, i, x, y]


def land_text(corners, called="L"):
    return " ".join(["land", called] + [f"{x} {y}" for x, y in corners])


def name(text):
    return [len(text)] + numbers_of(text)


def take_apart(given):
    parts = []
    at = 0
    while at < len(given):
        parts.append(given[at + 1:at + 1 + given[at]])
        assert len(parts[-1]) == given[at] > 0, given
        at += 1 + given[at]
    return parts


def run(*calls):
    given = answers([number for call in calls for number in call])
    assert type(given) is list and all(type(number) is int for number in given), given
    parts = take_apart(given)
    assert len(parts) == len(calls), given
    return parts


def run_behind(before, calls):
    """What these calls answer behind that one, however many they are: nothing among them may change the water."""
    given = []
    for at in range(0, len(calls), 99):
        given += run(before, *calls[at:at + 99])[1:]
    return given


def loaded(text):
    return run(load(text))[0]


def written(text):
    """What text answers once this is loaded, as a str; the load itself must go well."""
    first, second = run(load(text), TEXT)
    assert first[0] >= 0, (text, first)
    assert second[0] == len(second) - 1, second
    return bytes(second[1:]).decode("ascii")


def ask_all():
    """Asks for all that a water may hold, and a little beside it."""
    calls = [TEXT, COUNTS]
    calls += [mark(i) for i in range(-1, 25)]
    for call in (line, land, course):
        calls += [call(i) for i in range(-1, 9)]
    return calls


def water_after(*calls):
    return run(*calls, *ask_all())[len(calls):]


class Texts:
    """Mixed into a test case: how a load ends."""

    def assert_right(self, text, counts):
        self.assertEqual(loaded(text), list(counts), text)

    def assert_wrong(self, text, number):
        self.assertEqual(loaded(text), [-1000 - number], text)

    def assert_line_wrong(self, wrong, before=""):
        """Wrong is one line; it stands behind the lines before, which are right."""
        number = before.count("\n") + 1
        self.assert_wrong(before + wrong + "\n", number)
        self.assert_wrong(before + wrong, number)


def share_a_place(a, b, c, d):
    """Whether two ways share a place, by fractions: another road than the program's."""
    ux, uy, vx, vy = b[0] - a[0], b[1] - a[1], d[0] - c[0], d[1] - c[1]
    wx, wy = c[0] - a[0], c[1] - a[1]
    cross = ux * vy - uy * vx
    if cross != 0:
        along = Fraction(wx * vy - wy * vx, cross)
        other = Fraction(wx * uy - wy * ux, cross)
        return 0 <= along <= 1 and 0 <= other <= 1
    if (ux, uy) == (0, 0) == (vx, vy):
        return a == c
    if (ux, uy) == (0, 0):
        return share_a_place(c, d, a, b)
    if wx * uy - wy * ux != 0:
        return False
    length = ux * ux + uy * uy
    ends = sorted(Fraction((p[0] - a[0]) * ux + (p[1] - a[1]) * uy, length) for p in (c, d))
    return ends[0] <= 1 and ends[1] >= 0


def has_place(a, b, place):
    return share_a_place(a, b, place, place)


def has_on_it(corners, place):
    """By how often the sides wind round the place, counted in quarters."""
    count = len(corners)
    sides = [(corners[k], corners[(k + 1) % count]) for k in range(count)]
    if any(has_place(a, b, place) for a, b in sides):
        return True
    wound = 0
    for (ax, ay), (bx, by) in sides:
        wound += half_turns((ax - place[0], ay - place[1]), (bx - place[0], by - place[1]))
    return wound != 0


def half_turns(a, b):
    """How the way from a to b goes through the row of places with y = 0 and x below 0."""
    if (a[1] >= 0) == (b[1] >= 0):
        return 0
    x = a[0] - Fraction(a[1] * (b[0] - a[0]), b[1] - a[1])
    if x > 0:
        return 0
    return 1 if a[1] >= 0 else -1
