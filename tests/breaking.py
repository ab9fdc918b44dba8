"""What the tests of papers share: machines of many kinds, random books and schedules, a plain reading of [222]."""

import random

from silentlinks.books import Book
from silentlinks.compiled import classic_text, memory_text
from silentlinks.lots import Lots
from silentlinks.machines import Machine
from silentlinks.memory import Memory
from silentlinks.nets import net_of
from silentlinks.patterns import Pattern
from silentlinks.sided import Sided
from silentlinks.told import Told
from silentlinks.worlds import World
from silentlinks.errors import NotDone
from silentlinks.stretches import round_events
from silentlinks.views import view
from silentlinks.worlds import run
from runs import some_event
from support import Reach, crossing_lots, some_lots, some_pattern

QUICK = """machine quick
cells s v
hear
  if their s > s
    s = their s
    v = their v
tick
  if deed = 2
    s = s + 1
    v = given
  if deed > 0
    answer v"""

# Answers with its third tick behind the begin, so that some have heard of it by then.
SLOW = """machine slow
cells s v c w
begin
  c = 0
hear
  if their s > s
    s = their s
    v = their v
tick
  c = c + 1
  if deed >= 2 and c = 1
    s = s + 1
    v = given
  if deed > 0 and c >= 3
    answer v"""

# Waits until the house 0 has heard of it and told so.
ASKER = """machine asker
cells s v c
rows k
hear
  k[from] = k[from] max their k[from]
  each j
    k[j] = k[j] max their k[j]
  if their s > s
    s = their s
    v = their v
begin
  c = k[0]
tick
  k[me] = k[me] + 1
  if deed >= 2
    s = s max 1
    v = v max given
  if deed > 0 and k[0] >= c + 3
    answer v"""

DEAF = "machine deaf\ncells c\ntick\n  c = 0"

# Never says anything but 7.
SEVEN = "machine seven\ntick\n  answer 7"


class Odds(Machine):
    """A machine of an asker's own, whose deeds need some ticks and some sheets; it answers what it heard last."""

    def __init__(self, houses, ticks, sheets):
        self.houses, self.ticks, self.sheets = houses, ticks, sheets

    def fresh(self, me):
        return (0, 0, 0, None)

    def begin(self, state, me, deed):
        return (0, 0, deed[-1] if len(deed) != 2 or deed[0] != "get" else state[2], deed)

    def hear(self, state, me, origin, sheet):
        value = sheet[2] if state[3] is None or state[3][0] == "get" else state[2]
        return (state[0], state[1] + 1, value or state[2], state[3])

    def tick(self, state, me):
        ticks, sheets, value, deed = state
        if deed is not None and ticks + 1 >= self.ticks and sheets >= self.sheets:
            return (0, 0, value, None), value
        return (min(ticks + 1, 5), min(sheets, 5), value, deed), None

    def admits(self, me, deed):
        return deed in (("get", 0), ("put", 0, 1), ("propose", 1), ("propose", 2), ("put", 0, 2))


def some_machine(pick, houses):
    """A machine of any kind that takes gets and puts of register 0 from every house."""
    lots = next(some_lots(pick.random(), 1, 1)) if houses == 1 else lots_for(pick, houses)
    made = pick.randrange(9)
    if made == 0:
        return Memory(lots)
    if made == 1:
        return Memory(crossing_for(pick, houses))
    if made == 2:
        return Told.read(houses, memory_text(lots))
    if made == 3:
        return Told.read(houses, classic_text(lots))
    if made == 4:
        return Odds(houses, pick.randint(1, 4), pick.randint(0, 3))
    if made == 5:
        return Sided(lots, lots_for(pick, houses))
    return Told.read(houses, pick.choice((QUICK, QUICK, SLOW, ASKER, DEAF, SEVEN)))


def agreeing_machine(pick, houses):
    """A machine that takes propose from every house."""
    if pick.random() < 0.3:
        return Odds(houses, pick.randint(1, 4), pick.randint(0, 3))
    return Told.read(houses, pick.choice((QUICK, SLOW, ASKER, DEAF, SEVEN)))


def lots_for(pick, houses):
    for lots in some_lots(pick.random(), 200, houses):
        if lots.houses == houses:
            return lots
    return Lots.majority(houses)


def crossing_for(pick, houses):
    for lots in crossing_lots(pick.random(), 200, houses):
        if lots.houses == houses:
            return lots
    return Lots.majority(houses)


def places_by(book):
    return [(i, h) for i, p in enumerate(book.patterns) for h in range(book.houses) if h not in p.fallen]


def broken_books(seed, many, most_houses=4):
    """Books with at least two places."""
    pick = random.Random(seed)
    while many > 0:
        houses = pick.randint(2, most_houses)
        book = Book(houses, [some_pattern(pick, houses) for _ in range(pick.randint(1, 4))])
        if len(places_by(book)) > 1:
            many -= 1
            yield pick, book


def blind_pairs(book):
    """Pairs of places (seer, seen) of which the first does not see the other one, by a plain reading of [5]."""
    nets = [Reach(book.houses, pattern) for pattern in book.patterns]
    rows = []
    for i, k in places_by(book):
        for j, h in places_by(book):
            if not set(nets[i].past(k)) & set(nets[j].part(h)):
                rows.append(((i, k), (j, h)))
    return rows


def wild_schedule(pick, machine, house, deed, length=60, pattern=None):
    """A schedule with the only begin of this deed by this house, which its last event answers; None if it is not."""
    world = World(machine)
    start = pick.randint(0, 8)
    for step in range(length):
        if step == start and world.can(("begin", house, deed)):
            world.do(("begin", house, deed))
            continue
        event = some_event(pick, world, [deed], pattern)
        if event[0] == "begin" or not world.can(event):
            continue
        if world.do(event) is not None:
            return tuple(world)
    return None


def told_of(paper):
    """All that a paper tells."""
    rows = {key: vars(paper)[key] for key in sorted(vars(paper)) if key != "book"}
    return (type(paper).__name__, paper.KIND, rows)


def net_at(book, place):
    return net_of(book, place[0])


def calm_book(houses):
    return Book(houses, [Pattern()])


def is_told(value, wanted):
    return repr(value) == repr(wanted)


def fault_by(machine, book, paper):
    """[222], word by word, for papers whose attributes are of the listed kinds."""
    if paper.KIND not in ("mute", "two runs", "odd") or paper.book != book:
        return "kind"
    if paper.number not in range(len(book)):
        return "pattern"
    pattern = book.patterns[paper.number]
    if paper.KIND != "two runs" and (paper.house not in range(book.houses) or paper.house in pattern.fallen):
        return "pattern"
    try:
        world = run(machine, paper.schedule)
    except NotDone:
        return "done"
    for event in paper.schedule:
        if event[0] in ("fall", "wake") and event[1] not in pattern.fallen:
            return "within"
        if event[0] == "hush" and event[1:] not in pattern.silent:
            return "within"
    records = {record[2]: record for record in world.history()}
    last = len(paper.schedule) - 1
    if paper.KIND == "mute":
        record = records.get(paper.start)
        if record is None or record[0] != paper.house or record[3] is not None:
            return "begin"
        left, twin = list(paper.schedule[paper.start + 1:]), run(machine, paper.schedule[:paper.start + 1])
        net = net_of(book, paper.number)
        while left:
            for event in round_events(twin, net, Reach(book.houses, pattern).past(paper.house)):
                if not left or left.pop(0) != event:
                    return "rounds"
                twin.do(event)
        return None
    if paper.KIND == "odd":
        if list(records) != [0] or records[0][0] != paper.house or not is_told(records[0][1], ("propose", 1)):
            return "begin"
        if records[0][3] != last:
            return "order"
        return "own" if is_told(records[0][4], 1) else None
    record = records.pop(paper.start, None)
    later = {repr(("put", 0, 1)): ("get", 0), repr(("propose", 1)): ("propose", 2)}
    if record is None or record[0] != paper.writer or repr(record[1]) not in later:
        return "begin"
    others = list(records.values())
    if len(others) != 1 or others[0][0] != paper.reader or not is_told(others[0][1], later[repr(record[1])]):
        return "others"
    if record[3] is None or record[3] > others[0][2] or others[0][3] != last:
        return "order"
    less = run(machine, paper.schedule[:paper.start] + paper.schedule[paper.start + 1:])
    return None if is_told(view(world, paper.reader), view(less, paper.reader)) else "view"
