"""A store: names, records and pieces, and the deeds that change them (points 14 and 15)."""

from holdback.errors import NoName, NoPiece, Twice
from holdback.holds import Hold
from holdback.rooms import free_name, free_piece, free_record, is_name, is_piece


class Store:
    def __init__(self, layout, plank):
        self.plan = layout
        self.book = Hold(plank)
        # By name, the newest change that took it out of a cell; kept also where that is out.
        self.taken_out = {}

    def make(self, name):
        self.ask_for_new_name(name, [name])
        record = free_record(self.plan, self.book)
        cell = free_name(self.plan, self.book)
        mark = self.book.change(self.plan.record_mark(record), 1, [])
        stands = self.book.change(self.plan.record_at(record), (1, ()), [mark])
        return [mark, stands, self.fill_cell(cell, name, record, stands)]

    def link(self, old, new):
        self.ask_for_new_name(new, [old, new])
        record = self.record_of(old)
        cell = free_name(self.plan, self.book)
        more = self.recount(record, 1, [])
        return [more, self.fill_cell(cell, new, record, more)]

    def cut(self, name):
        record = self.record_of(name)
        gone = self.empty_cell(name, [])
        if self.standing(record)[0] > 1:
            return [gone, self.recount(record, -1, [gone])]
        return [gone] + self.drop_record(record, gone)

    def put(self, name, text):
        record = self.record_of(name)
        if not is_piece(text):
            raise NoPiece("the text is none of a piece")
        piece = free_piece(self.plan, self.book)
        mark = self.book.change(self.plan.piece_mark(piece), 1, [])
        filled = self.book.change(self.plan.piece_at(piece), text, [mark])
        return [mark, filled, self.regroup(record, self.standing(record)[1] + (piece,), [filled])]

    def take(self, name, at):
        record = self.record_of(name)
        pieces = self.standing(record)[1]
        # A number below 0 would be counted from the end by an index.
        if not 0 <= at < len(pieces):
            raise NoPiece("the record has no piece at that place")
        without = self.regroup(record, pieces[:at] + pieces[at + 1:], [])
        return [without, self.book.change(self.plan.piece_mark(pieces[at]), 0, [without])]

    def move(self, old, new):
        # The old name stands till the new one has its cell, so that cell is never the old one's.
        linked = self.link(old, new)
        record = self.record_of(old)
        gone = self.empty_cell(old, [linked[1]])
        return linked + [gone, self.recount(record, -1, [gone])]

    def names(self):
        return sorted([value[0] for value in self.name_cells() if value is not None])

    def texts(self, name):
        pieces = self.standing(self.record_of(name))[1]
        return [self.book.in_hand(self.plan.piece_at(piece)) for piece in pieces]

    def places_of(self, name):
        record = self.record_of(name)
        own = [self.plan.name_at(self.cell_of(name)), self.plan.record_at(record)]
        return own + [self.plan.piece_at(piece) for piece in self.standing(record)[1]]

    def write(self, block):
        return self.book.write(block)

    def layout(self):
        return self.plan

    def hold(self):
        return self.book

    def ask_for_new_name(self, new, given):
        # Whether each text is a name comes ahead of whether the new one stands.
        if not all([is_name(text) for text in given]):
            raise NoName("the text is no name")
        if self.cell_of(new) is not None:
            raise Twice("the new name stands already")

    def record_of(self, name):
        # A text that is no name stands in no cell, so it is refused here likewise.
        cell = self.cell_of(name)
        if cell is None:
            raise NoName("no such name stands")
        return self.name_cells()[cell][1]

    def cell_of(self, name):
        for cell, value in enumerate(self.name_cells()):
            if value is not None and value[0] == name:
                return cell
        return None

    def name_cells(self):
        return [self.book.in_hand(self.plan.name_at(k)) for k in range(self.plan.counts()[0])]

    def standing(self, record):
        return self.book.in_hand(self.plan.record_at(record))

    def fill_cell(self, cell, name, record, need):
        needs = [need]
        # Else the name could come to stand on the plank twice.
        if name in self.taken_out:
            needs.append(self.taken_out[name])
        return self.book.change(self.plan.name_at(cell), (name, record), needs)

    def empty_cell(self, name, needs):
        gone = self.book.change(self.plan.name_at(self.cell_of(name)), None, needs)
        self.taken_out[name] = gone
        return gone

    def recount(self, record, more, needs):
        value = self.standing(record)
        return self.book.change(self.plan.record_at(record), (value[0] + more, value[1]), needs)

    def regroup(self, record, pieces, needs):
        return self.book.change(self.plan.record_at(record), (self.standing(record)[0], pieces), needs)

    def drop_record(self, record, gone):
        pieces = self.standing(record)[1]
        dropped = self.book.change(self.plan.record_at(record), None, [gone])
        made = [dropped]
        for mark in [self.plan.piece_mark(piece) for piece in pieces] + [self.plan.record_mark(record)]:
            made.append(self.book.change(mark, 0, [dropped]))
        return made
