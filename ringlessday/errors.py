"""All errors of the program. A code is the name of its class."""


class DayError(ValueError):
    """The base of what a call refuses."""


class InvalidName(DayError):
    def __init__(self, value):
        self.value = value
        self.code = "InvalidName"


class InvalidNumber(DayError):
    def __init__(self, value):
        self.value = value
        self.code = "InvalidNumber"


class InvalidSection(DayError):
    def __init__(self, value):
        self.value = value
        self.code = "InvalidSection"


class InvalidTimes(DayError):
    def __init__(self, value):
        self.value = value
        self.code = "InvalidTimes"


class InvalidStep(DayError):
    def __init__(self, value):
        self.value = value
        self.code = "InvalidStep"


class InvalidStanding(DayError):
    def __init__(self, value):
        self.value = value
        self.code = "InvalidStanding"


class InvalidRow(DayError):
    def __init__(self, value):
        self.value = value
        self.code = "InvalidRow"


class InvalidTable(DayError):
    def __init__(self, value):
        self.value = value
        self.code = "InvalidTable"


class InvalidDelays(DayError):
    def __init__(self, value):
        self.value = value
        self.code = "InvalidDelays"


class InvalidPeriod(DayError):
    def __init__(self, value):
        self.value = value
        self.code = "InvalidPeriod"


class InvalidHeights(DayError):
    def __init__(self, value):
        self.value = value
        self.code = "InvalidHeights"


class InvalidDeed(DayError):
    def __init__(self, value):
        self.value = value
        self.code = "InvalidDeed"


class InvalidTurn(DayError):
    def __init__(self, at):
        self.at = at
        self.code = "InvalidTurn"


class InvalidWait(DayError):
    def __init__(self, at):
        self.at = at
        self.code = "InvalidWait"


class InvalidWish(DayError):
    def __init__(self, at):
        self.at = at
        self.code = "InvalidWish"


class InvalidJourney(DayError):
    def __init__(self, at):
        self.at = at
        self.code = "InvalidJourney"


class InvalidText(DayError):
    def __init__(self, line):
        self.line = line
        self.code = "InvalidText"


class DuplicateName(DayError):
    def __init__(self, name):
        self.name = name
        self.code = "DuplicateName"


class InUse(DayError):
    def __init__(self, name):
        self.name = name
        self.code = "InUse"


class TakenEnd(DayError):
    def __init__(self, end):
        self.end = end
        self.code = "TakenEnd"


class LooseEnd(DayError):
    def __init__(self, end):
        self.end = end
        self.code = "LooseEnd"


class TooMany(DayError):
    def __init__(self, subject, most):
        self.subject = subject
        self.most = most
        self.code = "TooMany"


class MisplacedStep(DayError):
    def __init__(self, train, step):
        self.train = train
        self.step = step
        self.code = "MisplacedStep"


class OwnRing(DayError):
    def __init__(self, train, step, element):
        self.train = train
        self.step = step
        self.element = element
        self.code = "OwnRing"


class Refused(DayError):
    def __init__(self, train, element, holder):
        self.train = train
        self.element = element
        self.holder = holder
        self.code = "Refused"


class Lacking(DayError):
    def __init__(self, train, other):
        self.train = train
        self.other = other
        self.code = "Lacking"


class Unready(DayError):
    def __init__(self, train):
        self.train = train
        self.code = "Unready"


class Finished(DayError):
    def __init__(self, train):
        self.train = train
        self.code = "Finished"


class Barred(DayError):
    def __init__(self, train, step):
        self.train = train
        self.step = step
        self.code = "Barred"


class NoDay(DayError):
    def __init__(self):
        self.code = "NoDay"


class Doomed(DayError):
    def __init__(self):
        self.code = "Doomed"


class NeverCleared(DayError):
    def __init__(self, train, step, element):
        self.train = train
        self.step = step
        self.element = element
        self.code = "NeverCleared"


class NoPeriod(DayError):
    def __init__(self):
        self.code = "NoPeriod"


class TooShort(DayError):
    def __init__(self, period):
        self.period = period
        self.code = "TooShort"


class Missing(LookupError):
    """The base of what is asked for and not there."""


class UnknownName(Missing):
    def __init__(self, name):
        self.name = name
        self.code = "UnknownName"


class UnknownEnd(Missing):
    def __init__(self, end):
        self.end = end
        self.code = "UnknownEnd"


class UnknownEntry(Missing):
    def __init__(self, entry):
        self.entry = entry
        self.code = "UnknownEntry"


class NothingLeft(IndexError):
    def __init__(self):
        self.code = "NothingLeft"
