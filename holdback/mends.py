"""Mending: a sound plank is rid of its leavings (point 17)."""

from holdback.errors import NotSound
from holdback.walks import is_sound, walk


def mend(layout, plank):
    if not is_sound(layout, plank):
        raise NotSound("the plank has faults")
    finds = walk(layout, plank)
    due = {}
    for find in finds:
        due.update(mended_cells(layout, plank, find))
    write_due(plank, due)
    return finds


def mended_cells(layout, plank, find):
    if find[0] == "many":
        place = layout.record_at(find[1])
        return {place: (find[2], plank.read(place[0])[place[1]][1])}
    if find[0] == "marked":
        return {layout.record_mark(find[1]): 0}
    if find[1] == "record":
        return {layout.record_at(find[2]): None, layout.record_mark(find[2]): 0}
    return {layout.piece_mark(find[2]): 0}


def write_due(plank, due):
    for block in range(plank.blocks()):
        before = plank.read(block)
        after = [due.get((block, cell), value) for cell, value in enumerate(before)]
        # A left record's mark may be 0 already, and then its block is left alone.
        if after != before:
            plank.write(block, after)
