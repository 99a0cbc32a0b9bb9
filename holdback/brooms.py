"""Brooms: which block is to be written next, till nothing waits (point 10a)."""


class Broom:
    def chosen(self, hold):
        return hold.block_of(hold.waiting()[0])


class Fullest(Broom):
    def chosen(self, hold):
        best = 0
        most = 0
        for block in range(hold.blocks()):
            many = len(hold.outcome(block, {})[0])
            # Only more will do: of several the lowest is to be chosen.
            if many > most:
                best = block
                most = many
        return best


class Round(Broom):
    def __init__(self):
        self.turns = 0

    def chosen(self, hold):
        block = self.turns % hold.blocks()
        self.turns += 1
        return block


def sweep(hold, broom):
    row = []
    while hold.waiting():
        block = broom.chosen(hold)
        hold.write(block)
        row.append(block)
    return row
