"""Keeping a name, and a store that comes up from what stands on a plank (point 18)."""

from holdback.mends import mend
from holdback.rows import row_for
from holdback.stores import Store


def row_to_keep(store, name):
    hold = store.hold()
    newest = [hold.newest(place) for place in store.places_of(name)]
    return row_for(hold, [number for number in newest if number is not None])


def come_up(layout, plank):
    mend(layout, plank)
    return Store(layout, plank)
