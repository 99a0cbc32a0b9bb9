"""A house: a store that is told rows of words and answers each by a text (point 19)."""

from holdback.errors import NoRow
from holdback.keeping import come_up, row_to_keep
from holdback.stores import Store
from holdback.walks import walk

# By the first word, how many words there are in all.
FORMS = {
    "make": 2, "link": 3, "cut": 2, "put": 3, "take": 3, "move": 3,
    "write": 2, "keep": 2, "show": 2, "names": 1, "stop": 1,
}
WITH_A_NUMBER_LAST = ("take", "write")
DEEDS = ("make", "link", "cut", "put", "take", "move")
MOST_FIGURES = 3


class House:
    def __init__(self, layout):
        self.plan = layout
        self.ground = layout.plank()
        self.store = Store(layout, self.ground)

    def plank(self):
        return self.ground

    def say(self, row):
        words = words_of(row)
        if words[0] in DEEDS:
            do_deed(self.store, words)
            return "ok"
        if words[0] == "stop":
            return self.come_up_again()
        return answer_of(self.store, words)

    def come_up_again(self):
        # Counted ahead, since coming up mends them and doesn't tell them.
        finds = walk(self.plan, self.ground)
        self.store = come_up(self.plan, self.ground)
        return str(len(finds))


def words_of(row):
    kind = row.partition(" ")[0]
    if kind not in FORMS:
        raise NoRow("the row begins with no word that is known")
    # The text that is put may have blanks of its own, at its ends too.
    words = row.split(" ", 2) if kind == "put" else row.split(" ")
    if len(words) != FORMS[kind]:
        raise NoRow("the row has too few words or too many")
    if kind in WITH_A_NUMBER_LAST and not is_number(words[-1]):
        raise NoRow("the last word is no number of one to three figures")
    return words


def is_number(word):
    # Not isdigit: there are figures beyond those of ASCII for Python too.
    if not 1 <= len(word) <= MOST_FIGURES or not all(["0" <= sign <= "9" for sign in word]):
        return False
    return word == "0" or word[0] != "0"


def do_deed(store, words):
    kind = words[0]
    if kind == "make":
        store.make(words[1])
    elif kind == "link":
        store.link(words[1], words[2])
    elif kind == "cut":
        store.cut(words[1])
    elif kind == "put":
        store.put(words[1], words[2])
    elif kind == "take":
        store.take(words[1], int(words[2]))
    else:
        store.move(words[1], words[2])


def answer_of(store, words):
    kind = words[0]
    if kind == "write":
        return numbers_of_writing(store.write(int(words[1])))
    if kind == "keep":
        return joined_or_dash([str(block) for block in row_to_keep(store, words[1])])
    if kind == "show":
        return "".join(store.texts(words[1]))
    return joined_or_dash(store.names())


def numbers_of_writing(told):
    out = len(told[0])
    held = len(told[1])
    return f"{out} {held}"


def joined_or_dash(parts):
    return " ".join(parts) if len(parts) > 0 else "-"
