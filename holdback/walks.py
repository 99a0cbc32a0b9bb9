"""A walk over a plank: the faults and the leavings that stand there (point 16), and what is sound (point 17)."""


class View:
    def __init__(self, layout, plank):
        counts = layout.counts()
        records = counts[1]
        pieces = counts[2]
        self.name_values = values_at(plank, [layout.name_at(k) for k in range(counts[0])])
        self.record_values = values_at(plank, [layout.record_at(k) for k in range(records)])
        self.piece_values = values_at(plank, [layout.piece_at(k) for k in range(pieces)])
        self.record_marks = values_at(plank, [layout.record_mark(k) for k in range(records)])
        self.piece_marks = values_at(plank, [layout.piece_mark(k) for k in range(pieces)])
        # By record, how many names lead to it; by piece, how often it is named: by all that stand, by those led to.
        self.leads = tally(records, [value[1] for value in self.name_values if value is not None])
        self.namings = tally(pieces, pieces_in(self.record_values))
        self.reached = tally(pieces, pieces_in(self.records_led_to()))

    def records_led_to(self):
        return [value for record, value in enumerate(self.record_values) if self.leads[record] > 0]

    def records_standing(self):
        return [record for record, value in enumerate(self.record_values) if value is not None]

    def pieces_named(self):
        return [piece for piece, many in enumerate(self.namings) if many > 0]

    def count_of(self, record):
        return self.record_values[record][0]


def walk(layout, plank):
    view = View(layout, plank)
    return faults_in(view) + leavings_in(view)


def is_sound(layout, plank):
    return len(faults_in(View(layout, plank))) == 0


def faults_in(view):
    return faults_of_names(view) + faults_of_things(view) + faults_of_marks(view)


def faults_of_names(view):
    lost = []
    twice = []
    seen = {}
    for k, value in enumerate(view.name_values):
        if value is not None:
            if view.record_values[value[1]] is None:
                lost.append(("lost", k))
            if value[0] in seen:
                twice.append(("twice", k))
            seen[value[0]] = True
    return lost + twice


def faults_of_things(view):
    shared = [("shared", piece) for piece in view.pieces_named() if view.namings[piece] > 1]
    empty = [("empty", piece) for piece in view.pieces_named() if view.piece_values[piece] is None]
    few = [("few", record) for record in view.records_standing() if view.count_of(record) < view.leads[record]]
    return shared + empty + few


def faults_of_marks(view):
    # A record is led to also where none stands.
    led_to = [record for record, many in enumerate(view.leads) if many > 0]
    records = [("free", "record", record) for record in led_to if view.record_marks[record] != 1]
    pieces = [("free", "piece", piece) for piece in view.pieces_named() if view.piece_marks[piece] != 1]
    return records + pieces


def leavings_in(view):
    return leavings_of_records(view) + left_pieces(view) + marked_records(view)


def leavings_of_records(view):
    many = []
    left = []
    for record in view.records_standing():
        leads = view.leads[record]
        if leads == 0:
            left.append(("left", "record", record))
        elif view.count_of(record) > leads:
            many.append(("many", record, leads))
    return many + left


def left_pieces(view):
    marked = [piece for piece, mark in enumerate(view.piece_marks) if mark == 1]
    return [("left", "piece", piece) for piece in marked if view.reached[piece] == 0]


def marked_records(view):
    marked = [record for record, mark in enumerate(view.record_marks) if mark == 1]
    return [("marked", record) for record in marked if view.record_values[record] is None]


def values_at(plank, places):
    return [plank.read(block)[cell] for block, cell in places]


def tally(many, numbers):
    counts = [0 for k in range(many)]
    for number in numbers:
        counts[number] += 1
    return counts


def pieces_in(records):
    pieces = []
    for value in records:
        if value is not None:
            pieces.extend(value[1])
    return pieces
