"""What stands in the cells of a store, and which of them are free (points 12 and 13)."""

from holdback.errors import NoRoom
from holdback.values import is_sign

MOST_LETTERS = 8
MOST_PIECE_SIGNS = 40


def is_name(thing):
    # Not islower: letters beyond those of ASCII are small ones for Python too.
    return 1 <= len(thing) <= MOST_LETTERS and all(["a" <= sign <= "z" for sign in thing])


def is_piece(thing):
    return 1 <= len(thing) <= MOST_PIECE_SIGNS and all([is_sign(sign) for sign in thing])


def free_name(layout, hold):
    places = [layout.name_at(k) for k in range(layout.counts()[0])]
    return lowest_with(hold, places, (None,))


def free_record(layout, hold):
    marks = [layout.record_mark(k) for k in range(layout.counts()[1])]
    return lowest_with(hold, marks, (None, 0))


def free_piece(layout, hold):
    marks = [layout.piece_mark(k) for k in range(layout.counts()[2])]
    return lowest_with(hold, marks, (None, 0))


def lowest_with(hold, places, values):
    for k, place in enumerate(places):
        if hold.in_hand(place) in values:
            return k
    raise NoRoom("nothing of what is to be taken is free")
