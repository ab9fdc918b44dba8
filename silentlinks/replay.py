"""What a row of wishes answers."""

REGISTERS = 8


def deed_done(held, first, deed):
    """Does a deed on the registers held; its answer. first is the number of the row's first propose."""
    word = deed[0]
    if word == "propose":
        return first
    if word == "get":
        return held[deed[1]]
    if word == "put":
        held[deed[1]] = deed[2]
        return deed[2]
    if held[deed[1]] != deed[2]:
        return 0
    held[deed[1]] = deed[3]
    return 1


def replayed(row):
    """The answers of all wishes of a row, in order."""
    held = [0] * REGISTERS
    proposed = [deed[1] for _, _, deed in row if deed[0] == "propose"]
    first = proposed[0] if len(proposed) > 0 else None
    answers = []
    for _, _, deed in row:
        answers.append(deed_done(held, first, deed))
    return tuple(answers)


def answer_in(row, wish):
    """The answer of a wish that stands in the row."""
    return replayed(row)[row.index(wish)]


def agreed_rows(world):
    """The agreed row of each house of a world of an Agreed."""
    return tuple([world.state(house)[3] for house in range(world.houses)])


def agreed_history(world):
    """The records of the gets and puts of a world of an Agreed, in order."""
    return tuple([record for record in world.history() if record[1][0] in ("get", "put")])
