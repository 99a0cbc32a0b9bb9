"""A slow second telling of points 11 to 15, and what point 3 asks of a plank, for tests to compare with."""

import re

from holdback.errors import HoldError, NoName, NoPiece, NoRoom, Twice
from model import Model

NAME = re.compile("[a-z]{1,8}")
PIECE = re.compile("[ -$&-~]{1,40}")
POOL = ("a", "b", "c", "dd", "eee", "longname")
NO_NAMES = ("", "A", "a1", "waytoolong", "a b")
NO_PIECES = ("", "x" * 41, "5%")


class StoreModel:
    """Tells which changes a deed makes; the Model below keeps them, and what is out."""

    def __init__(self, sizes, plank):
        names, records, pieces, cells = sizes
        self.model = Model(plank)
        places = [(block, cell) for block in range(plank.blocks()) for cell in range(cells)]
        parts = []
        for many in (names, records, pieces, records, pieces):
            parts.append(places[:many * cells])
            places = places[many * cells:]
        self.names_at, self.records_at, self.pieces_at, self.record_marks, self.piece_marks = parts
        self.taken_out = {}
        # By the number of a record's change (None: what stood there at first), the texts put for its pieces.
        self.texts_by = {}

    def value(self, place):
        return self.model.value_at(place)

    def standing(self):
        return {self.value(place)[0]: place for place in self.names_at if self.value(place) is not None}

    def free(self, places, values):
        found = [number for number, place in enumerate(places) if self.value(place) in values]
        if not found:
            raise NoRoom
        return found[0]

    def ask(self, texts, new, old):
        if any(NAME.fullmatch(text) is None for text in texts):
            raise NoName
        if new is not None and new in self.standing():
            raise Twice
        if old is not None and old not in self.standing():
            raise NoName

    def record_of(self, name):
        return self.value(self.standing()[name])[1]

    def texts_of(self, record):
        return self.texts_in(record, self.model.newest(self.records_at[record]))

    def texts_in(self, record, number):
        if number is not None:
            return self.texts_by[number]
        value = self.model.at_first[self.records_at[record]]
        return [] if value is None else [self.model.at_first[self.pieces_at[piece]] for piece in value[1]]

    def set_record(self, record, value, needs, texts):
        number = self.model.change(self.records_at[record], value, needs)
        self.texts_by[number] = list(texts)
        return number

    def count(self, record, more, needs):
        count, pieces = self.value(self.records_at[record])
        return self.set_record(record, (count + more, pieces), needs, self.texts_of(record))

    def give(self, name, cell, record, need):
        needs = {need, self.taken_out.get(name, need)}
        return self.model.change(self.names_at[cell], (name, record), needs)

    def strip(self, name, needs):
        self.taken_out[name] = self.model.change(self.standing()[name], None, needs)
        return self.taken_out[name]

    def make(self, name):
        self.ask([name], name, None)
        record = self.free(self.record_marks, (None, 0))
        cell = self.free(self.names_at, (None,))
        mark = self.model.change(self.record_marks[record], 1, [])
        stands = self.set_record(record, (1, ()), [mark], [])
        return [mark, stands, self.give(name, cell, record, stands)]

    def link(self, old, new):
        self.ask([old, new], new, old)
        cell, record = self.free(self.names_at, (None,)), self.record_of(old)
        more = self.count(record, 1, [])
        return [more, self.give(new, cell, record, more)]

    def cut(self, name):
        self.ask([name], None, name)
        record = self.record_of(name)
        gone = self.strip(name, [])
        count, pieces = self.value(self.records_at[record])
        if count > 1:
            return [gone, self.count(record, -1, [gone])]
        dropped = self.set_record(record, None, [gone], [])
        marks = [self.model.change(self.piece_marks[piece], 0, [dropped]) for piece in pieces]
        return [gone, dropped, *marks, self.model.change(self.record_marks[record], 0, [dropped])]

    def put(self, name, text):
        self.ask([name], None, name)
        if PIECE.fullmatch(text) is None:
            raise NoPiece
        piece, record = self.free(self.piece_marks, (None, 0)), self.record_of(name)
        mark = self.model.change(self.piece_marks[piece], 1, [])
        filled = self.model.change(self.pieces_at[piece], text, [mark])
        count, pieces = self.value(self.records_at[record])
        texts = self.texts_of(record) + [text]
        return [mark, filled, self.set_record(record, (count, pieces + (piece,)), [filled], texts)]

    def take(self, name, at):
        self.ask([name], None, name)
        record = self.record_of(name)
        count, pieces = self.value(self.records_at[record])
        if at not in range(len(pieces)):
            raise NoPiece
        texts = self.texts_of(record)
        left = [piece for place, piece in enumerate(pieces) if place != at]
        texts = [text for place, text in enumerate(texts) if place != at]
        without = self.set_record(record, (count, tuple(left)), [], texts)
        return [without, self.model.change(self.piece_marks[pieces[at]], 0, [without])]

    def move(self, old, new):
        self.ask([old, new], new, old)
        cell, record = self.free(self.names_at, (None,)), self.record_of(old)
        more = self.count(record, 1, [])
        given = self.give(new, cell, record, more)
        gone = self.strip(old, [given])
        return [more, given, gone, self.count(record, -1, [gone])]

    def names(self):
        return sorted(self.standing())

    def texts(self, name):
        self.ask([name], None, name)
        return self.texts_of(self.record_of(name))

    def write(self, block):
        before = set(self.model.out)
        held = self.model.write(block)
        return (sorted(self.model.out - before), held)

    def wrongs(self, plank):
        """What of point 3 does not hold of what stands on the plank, as a list of texts."""
        at = {(block, cell): value for block in range(plank.blocks()) for cell, value in enumerate(plank.read(block))}
        names = [at[place] for place in self.names_at if at[place] is not None]
        records = {k: at[place] for k, place in enumerate(self.records_at) if at[place] is not None}
        found = [f"{name} stands twice" for name, _ in names if [one for one, _ in names].count(name) > 1]
        for name, record in names:
            if record not in records:
                found.append(f"{name} leads nowhere")
            if at[self.record_marks[record]] != 1:
                found.append(f"record {record} is led to and not marked")
        owned = [piece for _, pieces in records.values() for piece in pieces]
        found += [f"piece {piece} is shared" for piece in owned if owned.count(piece) > 1]
        found += [f"piece {piece} is not marked" for piece in owned if at[self.piece_marks[piece]] != 1]
        for record, (count, pieces) in records.items():
            if count < [led for _, led in names].count(record):
                found.append(f"record {record} has a count of {count}")
            number = self.model.newest(self.records_at[record], self.model.out)
            if [at[self.pieces_at[piece]] for piece in pieces] != self.texts_in(record, number):
                found.append(f"record {record} has other texts")
        return found


def done(store, deed):
    """What a deed tells, or the class of the refusal."""
    try:
        return getattr(store, deed[0])(*deed[1:])
    except HoldError as error:
        return error.__class__


def settle(store, broom):
    """Writes till nothing waits; a store's hold is asked alone, so it is not swept straight."""
    while store.hold().waiting():
        store.write(broom.chosen(store.hold()))


def name_for(chance, likely):
    if chance.random() < 0.04:
        return chance.choice(NO_NAMES)
    return chance.choice(likely if likely and chance.random() < 0.85 else POOL)


def text_for(chance, number):
    return chance.choice(NO_PIECES) if chance.random() < 0.05 else f"text {number}"


def deed_for(chance, standing, number):
    """Some deed, most often with names that stand where such are needed and that don't where new."""
    new = [name for name in POOL if name not in standing]
    kind = chance.choice(("make", "make", "link", "link", "cut", "cut", "put", "put", "put", "take", "move", "move"))
    if kind in ("link", "move"):
        return (kind, name_for(chance, standing), name_for(chance, new))
    if kind == "put":
        return (kind, name_for(chance, standing), text_for(chance, number))
    if kind == "take":
        return (kind, name_for(chance, standing), chance.choice((0, 0, 0, 1, 2, -1, 40)))
    return (kind, name_for(chance, new if kind == "make" else standing))


def sizes_for(chance):
    return tuple(chance.randint(1, most) for most in (3, 3, 3, 4))
