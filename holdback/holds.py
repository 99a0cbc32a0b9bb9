"""A hold: changes over a plank, written back block by block (points 8 and 9)."""

from holdback.changes import Book


class Hold(Book):
    def write(self, block):
        # Read first: it refuses what is no block ahead of any change.
        values = self.ground.read(block)
        told = self.outcome(block, {})
        for number in told[0]:
            self.outs[number] = True
        self.ground.write(block, self.laid_over(values, block))
        return told

    def outcome(self, block, taken):
        # What a writing of the block would tell if the numbers in the dict taken were out too.
        gone = dict(taken)
        out = []
        held = []
        for number in self.made_in[block]:
            if number not in self.outs and number not in gone:
                # Needs are lower numbers, so whether they go out now is known by here.
                lack = self.lack_of(number, gone)
                if lack is None:
                    gone[number] = True
                    out.append(number)
                else:
                    held.append((number, lack))
        return (out, held)

    def lack_of(self, number, gone):
        for need in self.made[number].needs:
            if need not in self.outs and need not in gone:
                return need
        return None

    def laid_over(self, values, block):
        laid = list(values)
        # Rising, so that the last change that is out has the last word at its place.
        for number in self.made_in[block]:
            if number in self.outs:
                laid[self.made[number].place[1]] = self.made[number].value
        return laid
