"""What the tests share: calls written shortly, and answers taken apart."""

from regattawater.water import answers

EXAMPLE = (
    "mark A 0 10\n"
    "mark B 5 0\n"
    "line S 10 -5 -10 -5\n"
    "course one\n"
    "start S\n"
    "laps 2\n"
    "round A port\n"
    "gate B A\n"
    "done\n"
    "finish S\n"
    "end\n"
)

TEXT = [1]
COUNTS = [2]
HUGE = 10 ** 18


def numbers_of(text):
    return list(text.encode("latin-1")) if isinstance(text, str) else list(text)


def load(text):
    numbers = numbers_of(text)
    return [0, len(numbers)] + numbers


def mark(i):
    return [3, i]


def line(i):
    return [4, i]


def land(i):
    return [5, i]


def course(i):
    return [6, i]


def name(text):
    return [len(text)] + numbers_of(text)


def take_apart(given):
    parts = []
    at = 0
    while at < len(given):
        parts.append(given[at + 1:at + 1 + given[at]])
        assert len(parts[-1]) == given[at] > 0, given
        at += 1 + given[at]
    return parts


def run(*calls):
    given = answers([number for call in calls for number in call])
    assert type(given) is list and all(type(number) is int for number in given), given
    parts = take_apart(given)
    assert len(parts) == len(calls), given
    return parts


def loaded(text):
    return run(load(text))[0]


def written(text):
    """What text answers once this is loaded, as a str; the load itself must go well."""
    first, second = run(load(text), TEXT)
    assert first[0] >= 0, (text, first)
    assert second[0] == len(second) - 1, second
    return bytes(second[1:]).decode("ascii")


def ask_all():
    """Asks for all that a water may hold, and a little beside it."""
    calls = [TEXT, COUNTS]
    calls += [mark(i) for i in range(-1, 25)]
    for call in (line, land, course):
        calls += [call(i) for i in range(-1, 9)]
    return calls


def water_after(*calls):
    return run(*calls, *ask_all())[len(calls):]


class Texts:
    """Mixed into a test case: how a load ends."""

    def assert_right(self, text, counts):
        self.assertEqual(loaded(text), list(counts), text)

    def assert_wrong(self, text, number):
        self.assertEqual(loaded(text), [-1000 - number], text)

    def assert_line_wrong(self, wrong, before=""):
        """Wrong is one line; it stands behind the lines before, which are right."""
        number = before.count("\n") + 1
        self.assert_wrong(before + wrong + "\n", number)
        self.assert_wrong(before + wrong, number)
