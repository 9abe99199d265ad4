"""The errors of the package: all stand directly under FloorError, none under another one."""


class FloorError(ValueError):
    """Any argument that is refused; made of any things."""


class BadHouse(FloorError):
    """No house: place is the first part that isn't as told, None of what is no tuple of five."""

    def __init__(self, place):
        self.place = place


class BadLot(FloorError):
    """No lot: number is that of the first thing that isn't as told, None of no tuple."""

    def __init__(self, number):
        self.number = number


class BadText(FloorError):
    """No text of clauses: number is that of the first thing that isn't as told, None of no tuple."""

    def __init__(self, number):
        self.number = number


class BadGoal(FloorError):
    """No goal: number is that of the first thing that isn't as told, None of no tuple."""

    def __init__(self, number):
        self.number = number


class BadMotion(FloorError):
    """No motion: place is the part that isn't as told, None where the motion has no known form."""

    def __init__(self, place):
        self.place = place


class BadStand(FloorError):
    """No stand: place is the first part that isn't as told, None where the stand has no known form."""

    def __init__(self, place):
        self.place = place


class BadAct(FloorError):
    """No act, or one that isn't in order: place tells which."""

    def __init__(self, place):
        self.place = place


class BadRow(FloorError):
    """No row: place is the number of the first act that isn't as told, None of no tuple."""

    def __init__(self, place):
        self.place = place


class BadMember(FloorError):
    """No member: value is what stood in the place of one."""

    def __init__(self, value):
        self.value = value


class BadNumber(FloorError):
    """No number as told: value is what stood in the place of one."""

    def __init__(self, value):
        self.value = value


class BadShare(FloorError):
    """No share, or no rule with one: value is what stood in the place of it."""

    def __init__(self, value):
        self.value = value


class BadFamily(FloorError):
    """No family: place is the number of the first thing that isn't as told, None of no tuple."""

    def __init__(self, place):
        self.place = place


class BadPaper(FloorError):
    """No paper, or one that doesn't hold: word tells which."""

    def __init__(self, word):
        self.word = word


class BadMinutes(FloorError):
    """No minutes: place is the number of the first entry that isn't as told, None of the whole."""

    def __init__(self, place):
        self.place = place


class BadWords(FloorError):
    """A text that can't be read: line and word are the numbers of the first word that can't stand there."""

    def __init__(self, line, word):
        self.line = line
        self.word = word


class BadName(FloorError):
    """No name of what is asked: name is what stood in the place of one."""

    def __init__(self, name):
        self.name = name


class NothingBack(FloorError):
    """There is nothing, or not so much, that can be taken back."""


class TooGreat(FloorError):
    """More than can be gone through: most is the bound."""

    def __init__(self, most):
        self.most = most
