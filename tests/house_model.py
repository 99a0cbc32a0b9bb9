"""A slow second telling of points 18 and 19, and rows to say to a house, for tests to compare with."""

import re

from holdback.errors import HoldError, NoBlock, NoRow
from holdback.planks import Plank
from store_model import POOL, StoreModel, deed_for
from walk_model import finds_on, mended

NUMBER = "(0|[1-9][0-9]{0,2})"
FORMS = {
    "make": re.compile("make ([^ ]*)"),
    "link": re.compile("link ([^ ]*) ([^ ]*)"),
    "cut": re.compile("cut ([^ ]*)"),
    "put": re.compile("put ([^ ]*) (.*)"),
    "take": re.compile("take ([^ ]*) " + NUMBER),
    "move": re.compile("move ([^ ]*) ([^ ]*)"),
    "write": re.compile("write " + NUMBER),
    "keep": re.compile("keep ([^ ]*)"),
    "show": re.compile("show ([^ ]*)"),
    "names": re.compile("names"),
    "stop": re.compile("stop"),
}
# None of them has a form.
NO_ROWS = (
    "", " ", "make", "makea", "make a b", "make a ", " make a", "make  a", "MAKE a", "Make a", "link a", "link",
    "link a b c", "link a b ", "put", "put a", "puta b", "take a", "take a -1", "take a +1", "take a 00", "take a 01",
    "take a 1000", "take a ", "take a x", "take a 1 ", "take  a 1", "take a 0 0", "write", "write ", "write 01",
    "write -1", "write 1000", "write 1 1", "write 0 ", "write a", "keep", "keep a b", "show", "show a ", "names ",
    "names a", " names", "NAMES", "stop ", "stop 0", "Stop", "stopp", "what", "-", "0", "names\n", "cut", "cut a b",
    "move a", "move a b c", "move", "ok",
)


class HouseModel:
    def __init__(self, sizes):
        self.sizes = sizes
        names, records, pieces, cells = sizes
        self.begin([[None] * cells for _ in range(names + 2 * records + 2 * pieces)])

    def begin(self, blocks):
        self.store = StoreModel(self.sizes, plank_of(blocks))

    def blocks(self):
        return self.store.model.on_plank()

    def say(self, row):
        for kind, form in FORMS.items():
            match = form.fullmatch(row)
            if match:
                return getattr(self, "say_" + kind, self.deed(kind))(*match.groups())
        raise NoRow

    def deed(self, kind):
        def do(*words):
            given = [int(word) if kind == "take" and place == 1 else word for place, word in enumerate(words)]
            getattr(self.store, kind)(*given)
            return "ok"
        return do

    def say_write(self, word):
        if int(word) >= len(self.blocks()):
            raise NoBlock
        out, held = self.store.write(int(word))
        return "%d %d" % (len(out), len(held))

    def say_keep(self, name):
        self.store.ask([name], None, name)
        return " ".join(map(str, row_in_model(self.store, name))) or "-"

    def say_show(self, name):
        return "".join(self.store.texts(name))

    def say_names(self):
        return " ".join(self.store.names()) or "-"

    def say_stop(self):
        plank = plank_of(self.blocks())
        finds = finds_on(self.sizes, plank)
        self.begin(mended(self.sizes, plank))
        return str(len(finds))


def plank_of(blocks):
    plank = Plank(len(blocks), len(blocks[0]))
    for block, values in enumerate(blocks):
        plank.write(block, values)
    return plank


def row_in_model(store, name):
    """The row to keep a name, told by a StoreModel."""
    record = store.record_of(name)
    pieces = store.value(store.records_at[record])[1]
    places = [store.standing()[name], store.records_at[record]] + [store.pieces_at[piece] for piece in pieces]
    return store.model.row_for({store.model.newest(place) for place in places} - {None})


def said(house, row):
    """What a house answers, or the class of the refusal."""
    try:
        return house.say(row)
    except HoldError as error:
        return error.__class__


def row_for_house(chance, names, blocks, number, writing):
    """Some row, most often one that is answered."""
    kind = chance.random()
    if kind < writing:
        beyond = chance.choice((0, 0, 0, 2))
        return f"write {chance.randrange(blocks + beyond)}"
    if kind < writing + 0.03:
        return "stop"
    if kind < writing + 0.06:
        return chance.choice(NO_ROWS)
    if kind < writing + 0.12:
        return chance.choice(("keep", "show")) + " " + chance.choice(list(names) + list(POOL) + ["", "A"])
    if kind < writing + 0.14:
        return "names"
    deed = deed_for(chance, names, number)
    # No form is there for a number below 0.
    return " ".join(str(abs(part) if isinstance(part, int) else part) for part in deed)
