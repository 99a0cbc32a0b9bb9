"""A plank: blocks of cells, each block read and written whole (point 5)."""

from holdback.errors import NoBlock


class Plank:
    def __init__(self, blocks, cells):
        # Blocks are kept as tuples: no list handed in or told can be one that the plank keeps.
        self.contents = [(None,) * cells for block in range(blocks)]
        self.width = cells
        self.written = 0

    def blocks(self):
        return len(self.contents)

    def cells(self):
        return self.width

    def writings(self):
        return self.written

    def read(self, block):
        self.ask_for_block(block)
        return list(self.contents[block])

    def write(self, block, values):
        self.ask_for_block(block)
        if len(values) != self.width:
            raise NoBlock("the list is not as long as a block")
        self.contents[block] = tuple(values)
        self.written += 1

    def ask_for_block(self, block):
        # A number below 0 would be counted from the end by an index.
        if not 0 <= block < len(self.contents):
            # The number stays out of the words: Python refuses to write out very long ones.
            raise NoBlock("there is no such block")
