"""Runs, papers, boards and books told in lines."""

from silentlinks.errors import BadPaper
from silentlinks.judges import Judge
from silentlinks.nets import net_of
from silentlinks.papers import Mute, TwoRuns
from silentlinks.parts import parts, past
from silentlinks.texts import pattern_text
from silentlinks.whys import touring_state
from silentlinks.worlds import run


def spaced(values):
    """The values with one blank between them."""
    return " ".join([str(value) for value in values])


def answer_text(answer):
    """The text of an answer, of a tuple that of its members."""
    return spaced(answer) if isinstance(answer, tuple) else str(answer)


def tick_line(house, answer):
    """The line of a tick."""
    if answer is None:
        return f"house {house} ticks"
    return f"house {house} ticks and is answered {answer_text(answer)}"


def event_line(event, answer):
    """The line of an event; answer is that of a tick, or None."""
    word, house = event[0], event[1]
    if word == "begin":
        return f"house {house} begins {spaced(event[2])}"
    if word == "tick":
        return tick_line(house, answer)
    if word == "hand":
        return f"house {event[3]} hears sheet {event[2]} of house {house}"
    if word == "hush":
        return f"the link {house}>{event[2]} falls silent"
    return f"house {house} falls" if word == "fall" else f"house {house} wakes"


def run_lines(machine, schedule):
    """A list of the lines of the events of a schedule, with their numbers."""
    world = run(machine, schedule)
    answers = {record[3]: record[4] for record in world.history()}
    lines = []
    for time, event in enumerate(world):
        line = event_line(event, answers.get(time))
        lines.append(f"{time + 1:>3}. {line}")
    return lines


def mute_lines(judge, paper):
    """The lines of a Mute."""
    head = f"house {paper.house} waits (pattern {paper.number})"
    rounds = judge.rounds_of(paper)
    return [head] + run_lines(judge.machine, paper.schedule) + [f"not answered in {rounds} rounds"]


def runs_lines(judge, paper):
    """The lines of a TwoRuns."""
    deed = paper.schedule[paper.start][2]
    told = last_answer(judge.machine, paper.schedule)
    lines = [f"two runs (pattern {paper.number}): house {paper.reader} cannot tell them apart"]
    lines.append(f"with the {deed[0]} of house {paper.writer}:")
    lines.extend(run_lines(judge.machine, paper.schedule))
    lines.append("without it:")
    lines.extend(run_lines(judge.machine, paper.without()))
    lines.append(f"house {paper.reader} is answered {told} in both")
    words = {"with": "wrong with it", "without": "wrong without it"}
    return lines + [words[word] for word in judge.wrong(paper)]


def odd_lines(judge, paper):
    """The lines of an Odd."""
    head = f"house {paper.house} is alone (pattern {paper.number})"
    told = last_answer(judge.machine, paper.schedule)
    last = f"house {paper.house} proposed 1 and is answered {told}"
    return [head] + run_lines(judge.machine, paper.schedule) + [last]


def last_answer(machine, schedule):
    """The text of the answer that the last event of a schedule gives."""
    ended = [record for record in run(machine, schedule).history() if record[3] == len(schedule) - 1]
    return answer_text(ended[0][4])


def paper_lines(machine, book, paper):
    """A list of the lines of a paper; BadPaper() unless the judge of machine and book takes it."""
    judge = Judge(machine, book)
    if judge.fault(paper) is not None:
        raise BadPaper()
    if isinstance(paper, Mute):
        return mute_lines(judge, paper)
    return runs_lines(judge, paper) if isinstance(paper, TwoRuns) else odd_lines(judge, paper)


def card_line(house, card):
    """The line of the card of a house."""
    clock, heard, store = card
    stamps = spaced([f"{number}:{owner}" for number, owner, _ in store])
    values = spaced([value for _, _, value in store])
    return f"house {house} clock {clock} heard {spaced(heard)} stamps {stamps} values {values}"


def board_table(world, house):
    """A list of a line for each card on the board of house."""
    board = touring_state(world, house)[0]
    return [card_line(x, card) for x, card in enumerate(board)]


def book_lines(book):
    """A list of a line for each pattern, with the lines of its parts behind it."""
    lines = []
    for number, pattern in enumerate(book.patterns):
        net = net_of(book, number)
        lines.append(f"pattern {number}: {pattern_text(pattern)}")
        for houses in parts(net):
            ahead = past(net, houses[0])
            lines.append(f"  part {spaced(houses)} past {spaced(ahead)}")
    return lines
