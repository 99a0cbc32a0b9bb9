"""A layout: where names, records, pieces and marks stand on a plank (point 11)."""

from holdback.planks import Plank


class Layout:
    def __init__(self, names, records, pieces, cells):
        self.name_blocks = names
        self.record_blocks = records
        self.piece_blocks = pieces
        self.width = cells

    def name_at(self, k):
        return self.place_from(0, k)

    def record_at(self, k):
        return self.place_from(self.name_blocks, k)

    def piece_at(self, k):
        return self.place_from(self.name_blocks + self.record_blocks, k)

    def record_mark(self, k):
        return self.place_from(self.blocks_ahead_of_marks(), k)

    def piece_mark(self, k):
        return self.place_from(self.blocks_ahead_of_marks() + self.record_blocks, k)

    def counts(self):
        return (self.name_blocks * self.width, self.record_blocks * self.width, self.piece_blocks * self.width)

    def blocks(self):
        return self.blocks_ahead_of_marks() + self.record_blocks + self.piece_blocks

    def plank(self):
        return Plank(self.blocks(), self.width)

    def blocks_ahead_of_marks(self):
        return self.name_blocks + self.record_blocks + self.piece_blocks

    def place_from(self, block, k):
        return (block + k // self.width, k % self.width)
