"""Papers: what shows that a machine does not keep a promise."""


class Paper:
    """A schedule of a machine within a pattern of a book."""

    KIND = "paper"

    def __init__(self, book, schedule):
        self.book = book
        self.schedule = tuple(schedule)


class Mute(Paper):
    """A deed that a house begins at the time start stays unanswered in whole rounds."""

    KIND = "mute"

    def __init__(self, book, schedule, number, house, start):
        super().__init__(book, schedule)
        self.number = number
        self.house = house
        self.start = start


class TwoRuns(Paper):
    """The reader does not tell the schedule from the one without the begin of the writer at the time start."""

    KIND = "two runs"

    def __init__(self, book, schedule, number, writer, reader, start):
        super().__init__(book, schedule)
        self.number = number
        self.writer = writer
        self.reader = reader
        self.start = start

    def without(self):
        """The schedule without the event at the time start."""
        return self.schedule[:self.start] + self.schedule[self.start + 1:]


class Odd(Paper):
    """A house that is alone with its propose is answered something else."""

    KIND = "odd"

    def __init__(self, book, schedule, number, house):
        super().__init__(book, schedule)
        self.number = number
        self.house = house
