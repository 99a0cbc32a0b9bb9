"""A slow second telling of points 6 to 10a, and long rows of deeds, for tests to compare with."""

import random


class Model:
    """Keeps all changes as (place, value, set of needs), what is out as a set, the plank as a dict."""

    def __init__(self, plank):
        self.blocks, self.cells = plank.blocks(), plank.cells()
        self.changes = []
        self.made_at = {}
        self.out = set()
        self.at_first = {
            (block, cell): value for block in range(self.blocks) for cell, value in enumerate(plank.read(block))
        }

    def change(self, place, value, needs):
        ahead = self.made_at.setdefault(place, [])
        self.changes.append((place, value, set(needs) | set(ahead[-1:])))
        ahead.append(len(self.changes) - 1)
        return ahead[-1]

    def newest(self, place, among=None):
        found = self.made_at.get(place, [])
        return max((number for number in found if among is None or number in among), default=None)

    def value_at(self, place, among=None):
        number = self.newest(place, among)
        return self.at_first[place] if number is None else self.changes[number][1]

    def waiting(self):
        return [number for number in range(len(self.changes)) if number not in self.out]

    def needed(self, number):
        return sorted(self.changes[number][2])

    def closure(self, numbers):
        found, ahead = set(), list(numbers)
        while ahead:
            number = ahead.pop()
            if number not in found:
                found.add(number)
                ahead.extend(self.changes[number][2])
        return sorted(found - self.out)

    def going(self, block, out):
        # Grown till nothing is added, where the program walks once: it must come to the same.
        going, before = set(), None
        while going != before:
            before = set(going)
            for number, (place, _, needs) in enumerate(self.changes):
                if place[0] == block and number not in out and needs <= out | going:
                    going.add(number)
        return going

    def write(self, block):
        self.out |= self.going(block, self.out)
        return [
            (number, min(needs - self.out))
            for number, (place, _, needs) in enumerate(self.changes)
            if place[0] == block and number not in self.out
        ]

    def on_plank(self):
        return [
            [self.value_at((block, cell), self.out) for cell in range(self.cells)] for block in range(self.blocks)
        ]

    def row_for(self, numbers):
        row, out = [], set(self.out)
        while set(self.closure(numbers)) - out:
            oldest = min(set(self.closure(numbers)) - out)
            row.append(self.changes[oldest][0][0])
            out |= self.going(row[-1], out)
        return row

    def fullest(self):
        many = [len(self.going(block, self.out)) for block in range(self.blocks)]
        return many.index(max(many))


def all_of(plank):
    return [plank.read(block) for block in range(plank.blocks())]


def fill(plank):
    for block in range(plank.blocks()):
        plank.write(block, [f"first {block} {cell}" for cell in range(plank.cells())])


def value_for(chance, number):
    return chance.choice((None, number, -number, f"v{number}", (number,), (number, ("a", (None,))), ()))


def needs_for(chance, many):
    most = min(many, chance.choice((0, 0, 1, 2, 5)))
    return chance.choices(range(many), k=most)


def place_for(chance, plank):
    return (chance.randrange(plank.blocks()), chance.randrange(plank.cells()))


def grow(chance, plank, books, numbers):
    """Makes the changes of these numbers, the same in each of the books."""
    for number in numbers:
        place, value, needs = place_for(chance, plank), value_for(chance, number), needs_for(chance, number)
        for book in books:
            told = book.change(place, value, list(needs))
            if told != number:
                raise AssertionError(f"change {number} was told the number {told}")


def chance_of(seed):
    return random.Random(seed)
