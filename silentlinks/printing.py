"""Programs, written as texts."""

from silentlinks.reading import BLOCKS


def term_text(term):
    """The text of a term or a target."""
    kind, name, indexes = term
    ahead = "their " if kind.startswith("their ") else ""
    return ahead + str(name) + "".join(["[" + term_text(index) + "]" for index in indexes])


def expr_text(expr):
    """The text of an expression."""
    pieces = [term_text(expr[0])]
    for sign, term in expr[1:]:
        pieces.append(sign)
        pieces.append(term_text(term))
    return " ".join(pieces)


def cond_text(cond):
    """The text of the tests of a head line."""
    return " and ".join([f"{expr_text(first)} {sign} {expr_text(other)}" for first, sign, other in cond])


def lots_text(lots):
    """The text of the lots of a table."""
    return "; ".join([" ".join([str(house) for house in lot]) for lot in lots])


def head_text(statement):
    """The text of a statement's first line."""
    word = statement[0]
    if word == "set":
        return f"{term_text(statement[1])} = {expr_text(statement[2])}"
    if word == "answer":
        return "answer " + expr_text(statement[1])
    if word == "if":
        return "if " + cond_text(statement[1])
    if word == "first":
        return f"first {statement[1]} {statement[2]} needs {cond_text(statement[3])}"
    return f"{word} {statement[1]}"


def blocks_of(statement):
    """The block and the else block of a statement, () for one that it does not have."""
    if statement[0] == "if":
        return (statement[2], statement[3])
    if statement[0] == "first":
        return (statement[4], statement[5])
    return (statement[2], ()) if statement[0] == "each" else ((), ())


def block_lines(block, level):
    """The lines of a block of this level."""
    ahead = "  " * level
    lines = []
    for statement in block:
        lines.append(ahead + head_text(statement))
        inner, other = blocks_of(statement)
        lines.extend(block_lines(inner, level + 1))
        if len(other) > 0:
            lines.append(ahead + "else")
            lines.extend(block_lines(other, level + 1))
    return lines


def section_lines(head, block):
    """The lines of a part or block with its head line."""
    return [head] + block_lines(block, 1)


def program_text(program):
    """The text of a program."""
    lines = ["machine " + program.name]
    for word, names in (("cells", program.cells), ("rows", program.rows), ("grids", program.grids)):
        if len(names) > 0:
            lines.append(" ".join([word, *names]))
    for name, lots in program.tables:
        lines.append(f"lots {name} {lots_text(lots)}")
    for name, block in program.parts:
        lines.extend(section_lines("part " + name, block))
    for word, block in zip(BLOCKS, program.blocks):
        if len(block) > 0:
            lines.extend(section_lines(word, block))
    return "\n".join(lines)
