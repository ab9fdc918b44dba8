"""Programs as trees of tuples."""


class Program:
    """What a text of a program writes."""

    def __init__(self, name, cells, rows, grids, tables, parts, blocks):
        self.name = name
        self.cells = cells
        self.rows = rows
        self.grids = grids
        self.tables = tables
        self.parts = parts
        self.blocks = blocks

    def __eq__(self, other):
        return isinstance(other, Program) and self.told() == other.told()

    def told(self):
        """All attributes, in order."""
        return (self.name, self.cells, self.rows, self.grids, self.tables, self.parts, self.blocks)
