"""A slow second telling of points 16 and 17, and planks of a store to walk over, for tests to compare with."""

from collections import Counter

from holdback.planks import Plank
from model import all_of

FAULTS = ("lost", "twice", "shared", "empty", "few", "free")
KINDS = (
    ("lost",), ("twice",), ("shared",), ("empty",), ("few",), ("free", "record"), ("free", "piece"), ("many",),
    ("left", "record"), ("left", "piece"), ("marked",),
)


class Watched(Plank):
    """A plank that keeps which blocks were written."""

    def __init__(self, blocks, cells):
        super().__init__(blocks, cells)
        self.order = []

    def write(self, block, values):
        super().write(block, values)
        self.order.append(block)


def kind_of(find):
    return find[:2] if find[0] in ("free", "left") else find[:1]


def places_by_kind(sizes):
    """The places of names, records, pieces, record marks and piece marks, told without a layout."""
    names, records, pieces, cells = sizes
    places = [(block, cell) for block in range(names + 2 * records + 2 * pieces) for cell in range(cells)]
    told = []
    for many in (names, records, pieces, records, pieces):
        told.append(places[:many * cells])
        places = places[many * cells:]
    return told


def watched(sizes, names=None, records=None, pieces=None, record_marks=None, piece_marks=None):
    """A plank with these values by number, each of its blocks written once at the most."""
    plank = Watched(sizes[0] + 2 * sizes[1] + 2 * sizes[2], sizes[3])
    due = {}
    for places, values in zip(places_by_kind(sizes), (names, records, pieces, record_marks, piece_marks)):
        due.update({places[number]: value for number, value in (values or {}).items()})
    fill_cells(plank, due)
    return plank


def fill_cells(plank, due):
    for block in sorted({place[0] for place in due}):
        plank.write(block, [due.get((block, cell), value) for cell, value in enumerate(plank.read(block))])
    plank.order.clear()


def copy_of(plank):
    same = Watched(plank.blocks(), plank.cells())
    for block in range(plank.blocks()):
        same.write(block, plank.read(block))
    same.order.clear()
    return same


def values_on(sizes, plank):
    return [[plank.read(block)[cell] for block, cell in places] for places in places_by_kind(sizes)]


def finds_on(sizes, plank):
    """Each thing is asked for each kind of find; the finds are put in order at the end alone."""
    names, records, pieces, record_marks, piece_marks = values_on(sizes, plank)
    led = Counter(value[1] for value in names if value is not None)
    named = Counter(piece for value in records if value is not None for piece in value[1])
    reached = {piece for record in led if records[record] is not None for piece in records[record][1]}
    found = []
    for k, value in enumerate(names):
        if value is not None:
            found += [("lost", k)] if records[value[1]] is None else []
            found += [("twice", k)] if value[0] in [one[0] for one in names[:k] if one is not None] else []
    for piece, (text, mark) in enumerate(zip(pieces, piece_marks)):
        found += [("shared", piece)] if named[piece] > 1 else []
        found += [("empty", piece)] if named[piece] and text is None else []
        found += [("free", "piece", piece)] if named[piece] and mark != 1 else []
        found += [("left", "piece", piece)] if piece not in reached and mark == 1 else []
    for record, (value, mark) in enumerate(zip(records, record_marks)):
        found += [("free", "record", record)] if led[record] and mark != 1 else []
        if value is None:
            found += [("marked", record)] if mark == 1 else []
            continue
        found += [("few", record)] if value[0] < led[record] else []
        found += [("many", record, led[record])] if led[record] and value[0] > led[record] else []
        found += [("left", "record", record)] if not led[record] else []
    return sorted(found, key=lambda find: (KINDS.index(kind_of(find)), find[len(kind_of(find))]))


def has_faults(finds):
    return any(find[0] in FAULTS for find in finds)


def mended(sizes, plank):
    """The blocks as they are to stand behind mending, told by what is to be there, not by the finds."""
    names, records, pieces, record_marks, piece_marks = places_by_kind(sizes)
    at = {(block, cell): value for block in range(plank.blocks()) for cell, value in enumerate(plank.read(block))}
    led = Counter(at[place][1] for place in names if at[place] is not None)
    reached = set()
    for record, place in enumerate(records):
        if at[place] is not None and led[record]:
            at[place] = (led[record], at[place][1])
            reached.update(at[place][1])
        elif at[place] is not None:
            at[place], at[record_marks[record]] = None, 0
        elif at[record_marks[record]] == 1:
            at[record_marks[record]] = 0
    for piece, place in enumerate(piece_marks):
        if piece not in reached and at[place] == 1:
            at[place] = 0
    return [[at[(block, cell)] for cell in range(plank.cells())] for block in range(plank.blocks())]


def changed_blocks(before, after):
    # By their forms, so that 0 is never taken for another thing.
    return [block for block, values in enumerate(before) if repr(values) != repr(after[block])]


def wild_plank(chance, sizes):
    """Any values that point 12 tells, in any cells; most often with several faults."""
    names, records, pieces, record_marks, piece_marks = places_by_kind(sizes)
    fullness = chance.choice((0.2, 0.5, 0.9))
    due = {}
    for place in names:
        due[place] = (chance.choice("abcdefgh"), chance.randrange(len(records)))
    for place in records:
        named = tuple(chance.choices(range(len(pieces)), k=chance.choice((0, 0, 1, 1, 2))))
        due[place] = (chance.choice((1, 1, 2, 3, 10 ** 30)), named)
    for number, place in enumerate(pieces):
        due[place] = f"text {number}"
    for place in record_marks + piece_marks:
        due[place] = chance.choice((1, 1, 1, 0))
    plank = Watched(len({place[0] for place in due}), sizes[3])
    fill_cells(plank, {place: value for place, value in due.items() if chance.random() < fullness})
    return plank


def sound_plank(chance, sizes):
    """A plank without faults, with leavings of every kind here and there."""
    names, records, pieces, record_marks, piece_marks = [range(len(places)) for places in places_by_kind(sizes)]
    free_pieces = chance.sample(pieces, len(pieces))
    values = {kind: {} for kind in ("names", "records", "pieces", "record_marks", "piece_marks")}
    standing = [record for record in records if chance.random() < 0.6]
    for k in names:
        if standing and chance.random() < 0.6:
            values["names"][k] = ("abcdef"[k // 10] + "ghijklmnop"[k % 10], chance.choice(standing))
    led = Counter(value[1] for value in values["names"].values())
    for record in records:
        if record in standing:
            own = [free_pieces.pop() for _ in range(min(len(free_pieces), chance.choice((0, 1, 1, 2))))]
            values["records"][record] = (max(1, led[record]) + chance.choice((0, 0, 1, 5)), tuple(own))
            values["pieces"].update({piece: f"text {piece}" for piece in own})
            values["piece_marks"].update({piece: 1 for piece in own})
        values["record_marks"][record] = 1 if led[record] else chance.choice((None, 0, 1))
    for piece in free_pieces:
        values["pieces"][piece] = chance.choice((None, f"old {piece}"))
        values["piece_marks"][piece] = chance.choice((None, 0, 1))
    return watched(sizes, **values)


def state_of(plank):
    return (all_of(plank), plank.writings())


def names_and_texts_on(layout, plank):
    """The names that stand on the plank, each with the texts of the pieces it leads to."""
    def at(place):
        return plank.read(place[0])[place[1]]

    cells = [at(layout.name_at(k)) for k in range(layout.counts()[0])]
    return {
        cell[0]: [at(layout.piece_at(piece)) for piece in at(layout.record_at(cell[1]))[1]]
        for cell in cells if cell is not None
    }


def names_and_texts_in(store):
    return {name: store.texts(name) for name in store.names()}
