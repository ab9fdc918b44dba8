"""The errors that the package raises."""


class LinksError(Exception):
    """The base of all errors of the package."""


class BadNumber(LinksError):
    """An argument is no number, or is below its least one."""

    def __init__(self, name):
        self.name = name


class BadHouses(LinksError):
    """A number of houses is no number from 1 to 7."""


class BadHouse(LinksError):
    """A value is no house."""

    def __init__(self, house):
        self.house = house


class BadSet(LinksError):
    """A row of houses is no set; at is the first wrong position, or -1."""

    def __init__(self, at):
        self.at = at


class BadLinks(LinksError):
    """A row of links is no set; at is the first wrong position, or -1."""

    def __init__(self, at):
        self.at = at


class BadPattern(LinksError):
    """No pattern has this number, or a value is no pattern that fits (-1)."""

    def __init__(self, number):
        self.number = number


class BadBook(LinksError):
    """A value is no book, or a book would have no pattern."""


class OtherHouses(LinksError):
    """Two things are for unlike numbers of houses."""


class TooMany(LinksError):
    """There are more of these than the limit."""

    def __init__(self, name):
        self.name = name


class BadText(LinksError):
    """A text is wrong in this line, counted from 1."""

    def __init__(self, line):
        self.line = line


class IsFallen(LinksError):
    """A house is fallen in the pattern of a net."""

    def __init__(self, house):
        self.house = house


class BadPlaces(LinksError):
    """A row of places is no set; at is the first wrong position, or -1."""

    def __init__(self, at):
        self.at = at


class NotAPlace(LinksError):
    """The house at this position is fallen in its pattern, or a value is no place."""

    def __init__(self, at):
        self.at = at


class OtherBook(LinksError):
    """Two things are of unlike books."""


class Foes(LinksError):
    """Two places of a claim are foes."""

    def __init__(self, first, other):
        self.first = first
        self.other = other


class BadLots(LinksError):
    """A row of lots is wrong; at is the first wrong position, or -1."""

    def __init__(self, row, at):
        self.row = row
        self.at = at


class NotCrossing(LinksError):
    """Lots do not cross."""


class NoFullClaim(LinksError):
    """A book has no full claim."""


class NotASplit(LinksError):
    """There is no split for these numbers."""


class BadMachine(LinksError):
    """A value is no machine."""


class BadEvent(LinksError):
    """A value is no event."""


class NotAwake(LinksError):
    """A house is not awake."""

    def __init__(self, house):
        self.house = house


class IsAwake(LinksError):
    """A house is awake."""

    def __init__(self, house):
        self.house = house


class IsBusy(LinksError):
    """A house has a deed in progress."""

    def __init__(self, house):
        self.house = house


class NotAdmitted(LinksError):
    """A machine does not take a deed from a house."""

    def __init__(self, house):
        self.house = house


class NoSheet(LinksError):
    """A house has not made the sheet of this number."""

    def __init__(self, house, number):
        self.house = house
        self.number = number


class IsSilent(LinksError):
    """A link is silent, or was so when a sheet was made."""

    def __init__(self, first, other):
        self.first = first
        self.other = other


class NotDone(LinksError):
    """A world refuses the event at this time."""

    def __init__(self, time):
        self.time = time


class NotFree(LinksError):
    """Two successive events are not free to be exchanged."""

    def __init__(self, time):
        self.time = time


class BadProgram(LinksError):
    """A value is no program."""


class NotAName(LinksError):
    """Nothing has this name."""

    def __init__(self, name):
        self.name = name


class NoTick(LinksError):
    """A house has no tick of this number."""

    def __init__(self, house, number):
        self.house = house
        self.number = number


class BadOwner(LinksError):
    """A row of owners is wrong; at is the first wrong position, or -1."""

    def __init__(self, at):
        self.at = at


class NoDeed(LinksError):
    """There is no deed at this position."""

    def __init__(self, at):
        self.at = at


class BadRecord(LinksError):
    """A history is wrong; at is the first wrong position, or -1."""

    def __init__(self, at):
        self.at = at


class TooManyDeeds(LinksError):
    """A history has more deeds than the limit."""

    def __init__(self, number):
        self.number = number


class NotOne(LinksError):
    """The record at this position keeps a history from being one of one register."""

    def __init__(self, at):
        self.at = at


class BadPaper(LinksError):
    """A value is no paper, or one that is not taken."""


class BadRows(LinksError):
    """Rows of lots are wrong; at is the first wrong position, or -1."""

    def __init__(self, at):
        self.at = at


class FixedMachine(LinksError):
    """The machine of a desk is not exchanged."""


class NothingBack(LinksError):
    """There is no action to take back."""


class Closed(LinksError):
    """A trial is entered a second time."""


class NotTouring(LinksError):
    """The machine of a world is no touring machine."""
