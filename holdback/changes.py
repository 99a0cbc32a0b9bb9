"""Changes of cells and what each of them needs (points 6 and 7)."""

from holdback.errors import NoBlock, NoChange


class Change:
    def __init__(self, place, value, needs):
        self.place = place
        self.value = value
        self.needs = needs


class Book:
    def __init__(self, plank):
        self.ground = plank
        self.made = []
        self.made_in = [[] for block in range(plank.blocks())]
        self.latest = {}
        # A Book writes nothing, so of it nothing is ever out; a Hold marks here what is.
        self.outs = {}

    def change(self, place, value, needs):
        ahead = self.newest(place)
        self.ask_for_changes(needs)
        number = len(self.made)
        self.made.append(Change(place, value, needs_with(needs, ahead)))
        self.made_in[place[0]].append(number)
        self.latest[place] = number
        return number

    def in_hand(self, place):
        number = self.newest(place)
        if number is None:
            return self.ground.read(place[0])[place[1]]
        return self.made[number].value

    def newest(self, place):
        self.ask_for_place(place)
        return self.latest.get(place)

    def waiting(self):
        return [number for number in range(len(self.made)) if number not in self.outs]

    def needed(self, number):
        self.ask_for_changes([number])
        return list(self.made[number].needs)

    def closure(self, numbers):
        self.ask_for_changes(numbers)
        found = {}
        for number in numbers:
            found[number] = True
        # A change needs lower numbers alone: downwards, each is met behind all that need it.
        # What is out is left aside, since all that it needs is out too.
        for number in reversed(self.waiting()):
            if number in found:
                for need in self.made[number].needs:
                    found[need] = True
        return [number for number in self.waiting() if number in found]

    def blocks(self):
        return self.ground.blocks()

    def block_of(self, number):
        return self.made[number].place[0]

    def ask_for_place(self, place):
        # The numbers stay out of the words: Python refuses to write out very long ones.
        if not 0 <= place[0] < self.ground.blocks() or not 0 <= place[1] < self.ground.cells():
            raise NoBlock("there is no such place on the plank")

    def ask_for_changes(self, numbers):
        for number in numbers:
            if not 0 <= number < len(self.made):
                raise NoChange("there is no change of such a number")


def needs_with(needs, ahead):
    # Kept as a tuple, so that neither a list handed in nor one told is what the Book keeps.
    if ahead is None:
        return tuple(sorted(set(needs)))
    return tuple(sorted(set(list(needs) + [ahead])))
