"""What a call is refused for: one error for each refusal."""


class NotByte(Exception):
    pass


# Numbers that tell no place, or no row of places.
class NotPlace(Exception):
    pass


class NoSuch(Exception):
    pass


class TakenPlace(Exception):
    pass


class WrongText(Exception):
    def __init__(self, number):
        self.number = number


# Says only that a line is wrong: its number is known to the one who walks the lines.
class WrongLine(Exception):
    pass
