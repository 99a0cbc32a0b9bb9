"""What is promised over the whole program (points 1, 2 and 3), behind each step of long rows."""

import unittest

from holdback.brooms import Broom
from holdback.holds import Hold
from holdback.house import House
from holdback.keeping import come_up, row_to_keep
from holdback.layouts import Layout
from holdback.mends import mend
from holdback.rows import row_for
from holdback.stores import Store
from holdback.walks import is_sound, walk
from house_model import row_for_house, said
from model import all_of, chance_of
from store_model import StoreModel, deed_for, done, settle, sizes_for
from walk_model import (
    has_faults, kind_of, mended, names_and_texts_in, names_and_texts_on, sound_plank, state_of,
)


class Kept:
    """What must be there behind a stop: by name, the texts, or None where they may have changed."""

    def __init__(self, there):
        self.texts = dict(there)

    def keep(self, name, texts):
        self.texts[name] = texts

    def deed_done(self, kind, name, alike):
        """A deed was done with a name; alike are the names that led ahead of it to the same record."""
        if kind in ("cut", "move"):
            self.texts.pop(name, None)
        if kind in ("put", "take"):
            self.texts.update({other: None for other in alike if other in self.texts})

    def wrongs(self, there):
        return [
            name for name, texts in self.texts.items()
            if name not in there or (texts is not None and there[name] != texts)
        ]


def alike_in(store, name):
    """The names that lead in hand to the record of this one."""
    layout, hold = store.layout(), store.hold()
    cells = [hold.in_hand(layout.name_at(k)) for k in range(layout.counts()[0])]
    records = [cell[1] for cell in cells if cell is not None and cell[0] == name]
    return [cell[0] for cell in cells if cell is not None and cell[1] in records]


class Whole:
    """A store with its layout and plank, and all that is to hold of them behind each step."""

    def __init__(self, case, layout, plank):
        self.case, self.layout, self.plank = case, layout, plank
        self.store = Store(layout, plank)
        self.kept = Kept(names_and_texts_on(layout, plank))
        self.stops = 0

    def assert_sound(self):
        finds = walk(self.layout, self.plank)
        self.case.assertFalse(has_faults(finds), finds)
        self.case.assertIs(is_sound(self.layout, self.plank), True)
        cells = [self.plank.read(block)[cell] for block, cell in
                 [self.layout.name_at(k) for k in range(self.layout.counts()[0])]]
        names = [cell[0] for cell in cells if cell is not None]
        self.case.assertEqual(len(names), len(set(names)))
        self.case.assertEqual(self.kept.wrongs(names_and_texts_on(self.layout, self.plank)), [])
        return {kind_of(find) for find in finds}

    def do(self, deed):
        alike = alike_in(self.store, deed[1])
        told = done(self.store, deed)
        if isinstance(told, list):
            self.kept.deed_done(deed[0], deed[1], alike)

    def keep(self, name):
        texts, row = self.store.texts(name), row_to_keep(self.store, name)
        for block in row:
            self.store.write(block)
            self.assert_sound()
        self.kept.keep(name, texts)

    def stop(self, sizes):
        there, expected = names_and_texts_on(self.layout, self.plank), mended(sizes, self.plank)
        self.store = come_up(self.layout, self.plank)
        self.stops += 1
        self.case.assertEqual(names_and_texts_in(self.store), there)
        self.case.assertEqual(all_of(self.plank), expected)
        self.case.assertEqual(walk(self.layout, self.plank), [])
        self.case.assertEqual(self.store.hold().waiting(), [])
        self.kept = Kept(there)

    def assert_all_gets_there(self):
        hold = self.store.hold()
        while hold.waiting():
            oldest = hold.waiting()[0]
            self.case.assertIn(oldest, self.store.write(Broom().chosen(hold))[0])
            self.assert_sound()
        self.case.assertEqual(names_and_texts_on(self.layout, self.plank), names_and_texts_in(self.store))


class StoreTest(unittest.TestCase):
    def go(self, chance, whole, sizes, many):
        met = set()
        writing = chance.choice((0.2, 0.5, 0.8))
        for number in range(many):
            kind = chance.random()
            if kind < 0.03:
                # Ahead of it, kept names must be there; assert_sound has seen to that.
                whole.stop(sizes)
            elif kind < 0.08 and whole.store.names():
                whole.keep(chance.choice(whole.store.names()))
            elif kind < 0.08 + 0.92 * writing:
                whole.store.write(chance.randrange(whole.plank.blocks()))
            else:
                whole.do(deed_for(chance, whole.store.names(), number))
            met |= whole.assert_sound()
        return met

    def test_from_a_new_plank(self):
        met, stops = set(), 0
        for seed in range(60):
            chance = chance_of(seed)
            sizes = sizes_for(chance)
            whole = Whole(self, Layout(*sizes), Layout(*sizes).plank())
            met |= self.go(chance, whole, sizes, 120)
            whole.assert_all_gets_there()
            # All deeds are whole on the plank, so none of them has left anything.
            self.assertEqual(walk(whole.layout, whole.plank), [])
            stops += whole.stops
        # Else the rows would have been too plain ones.
        self.assertEqual(met, {("many",), ("left", "record"), ("left", "piece"), ("marked",)})
        self.assertGreater(stops, 100)

    def test_over_sound_planks_with_leavings(self):
        for seed in range(60):
            chance = chance_of(seed)
            sizes = sizes_for(chance)
            whole = Whole(self, Layout(*sizes), sound_plank(chance, sizes))
            self.go(chance, whole, sizes, 60)
            whole.assert_all_gets_there()

    def test_over_sound_planks_that_are_never_mended(self):
        for seed in range(60):
            chance = chance_of(seed)
            sizes = sizes_for(chance)
            plank = sound_plank(chance, sizes)
            whole, model = Whole(self, Layout(*sizes), plank), StoreModel(sizes, plank)
            for number in range(60):
                deed = deed_for(chance, whole.store.names(), number)
                if chance.random() < 0.5:
                    deed = ("write", chance.randrange(plank.blocks()))
                self.assertEqual(done(whole.store, deed), done(model, deed))
                self.assertEqual(model.wrongs(plank), [])
                self.assertIs(is_sound(whole.layout, plank), True)

    def test_every_moment_of_every_order_of_few_writings(self):
        # Whatever three blocks are written behind these deeds, it is sound, and comes up with just what is there.
        sizes = (1, 1, 1, 2)
        rows = (
            (("make", "a"), ("put", "a", "x"), ("link", "a", "b"), ("cut", "a")),
            (("make", "a"), ("move", "a", "b"), ("make", "a")),
            (("make", "a"), ("put", "a", "x"), ("take", "a", 0), ("put", "a", "y"), ("cut", "a"), ("make", "b"),
             ("put", "b", "z")),
        )
        for deeds in rows:
            for first in range(125):
                whole = Whole(self, Layout(*sizes), Layout(*sizes).plank())
                for block in (first // 25, first // 5 % 5, first % 5):
                    for deed in deeds:
                        done(whole.store, deed)
                    whole.store.write(block)
                    whole.assert_sound()
                whole.stop(sizes)
                whole.do(("make", "z"))
                whole.assert_all_gets_there()


class HouseTest(unittest.TestCase):
    def assert_sound(self, layout, house, kept):
        plank = house.plank()
        self.assertIs(is_sound(layout, plank), True)
        self.assertFalse(has_faults(walk(layout, plank)))
        self.assertEqual(kept.wrongs(names_and_texts_on(layout, plank)), [])

    def shown(self, house):
        names = house.say("names")
        return {} if names == "-" else {name: house.say("show " + name) for name in names.split(" ")}

    def there(self, layout, house):
        return {name: "".join(texts) for name, texts in names_and_texts_on(layout, house.plank()).items()}

    def test_each_row(self):
        for seed in range(60):
            chance = chance_of(seed)
            layout = Layout(*sizes_for(chance))
            house, kept = House(layout), Kept({})
            writing = chance.choice((0.2, 0.5, 0.7))
            for number in range(120):
                self.one_row(chance, layout, house, kept, number, writing)
                self.assert_sound(layout, house, kept)
            self.settle(house)
            self.assertEqual(self.shown(house), self.there(layout, house))
            self.assertEqual(walk(layout, house.plank()), [])
            self.assertEqual(house.say("stop"), "0")

    def one_row(self, chance, layout, house, kept, number, writing):
        names = sorted(self.shown(house))
        if names and chance.random() < 0.05:
            return self.keep(house, kept, layout, chance.choice(names))
        row = row_for_house(chance, names, layout.blocks(), number, writing)
        words = row.split(" ") + [""]
        alike = alike_in(house.store, words[1])
        there, finds = self.there(layout, house), walk(layout, house.plank())
        answer = said(house, row)
        if row == "stop":
            self.assertEqual((answer, self.shown(house)), (str(len(finds)), there))
            kept.texts = names_and_texts_on(layout, house.plank())
        elif answer == "ok":
            kept.deed_done(words[0], words[1], alike)

    def keep(self, house, kept, layout, name):
        shown, row = house.say("show " + name), house.say("keep " + name)
        for block in row.split(" ") if row != "-" else []:
            self.assertNotEqual(house.say("write " + block)[:2], "0 ")
            self.assert_sound(layout, house, kept)
        self.assertEqual((self.there(layout, house)[name], house.say("keep " + name)), (shown, "-"))
        kept.keep(name, names_and_texts_on(layout, house.plank())[name])

    def settle(self, house):
        blocks = range(house.plank().blocks())
        while any([house.say(f"write {block}") != "0 0" for block in blocks]):
            pass


class HandedInTest(unittest.TestCase):
    """Point 2: what is handed in is not changed, and what was told stays as it was."""

    def test_the_layout_stays(self):
        layout = Layout(2, 3, 1, 2)
        before = vars(layout).copy()
        house = House(layout)
        for row in ("make a", "put a x", "write 0", "stop", "make b", "keep b"):
            house.say(row)
        plank = layout.plank()
        mend(layout, plank)
        come_up(layout, plank).make("a")
        walk(layout, plank)
        self.assertEqual(vars(layout), before)

    def test_walking_and_keeping_change_nothing(self):
        chance = chance_of(7)
        layout = Layout(2, 2, 2, 2)
        store = Store(layout, layout.plank())
        for number in range(40):
            done(store, deed_for(chance, store.names(), number))
            store.write(chance.randrange(layout.blocks()))
            plank = store.hold().ground
            before = (state_of(plank), store.hold().waiting(), names_and_texts_in(store))
            walk(layout, plank)
            is_sound(layout, plank)
            for name in store.names():
                row_to_keep(store, name)
            self.assertEqual((state_of(plank), store.hold().waiting(), names_and_texts_in(store)), before)

    def test_lists_told_are_new_ones_and_stay(self):
        chance = chance_of(11)
        layout = Layout(2, 2, 2, 2)
        plank = layout.plank()
        store, told = Store(layout, plank), []
        for number in range(60):
            lists = self.all_lists(layout, plank, store)
            lists.append(done(store, deed_for(chance, store.names(), number)))
            lists += store.write(chance.randrange(layout.blocks()))
            if number in (20, 40):
                lists.append(mend(layout, plank))
                store = come_up(layout, plank)
            told += [(one, list(one)) for one in lists if isinstance(one, list)]
        settle(store, Broom())
        self.assertEqual(len({id(one) for one, _ in told}), len(told))
        for one, as_told in told:
            self.assertEqual(one, as_told)

    def all_lists(self, layout, plank, store):
        hold = store.hold()
        lists = [walk(layout, plank), store.names(), hold.waiting(), hold.closure(hold.waiting())]
        lists += [row_for(hold, hold.waiting()), plank.read(0)]
        for name in store.names():
            lists += [store.texts(name), row_to_keep(store, name)]
        return lists

    def test_what_becomes_of_a_list_told_changes_nothing(self):
        layout = Layout(2, 2, 2, 2)
        plank = layout.plank()
        store = Store(layout, plank)
        store.make("a")
        store.put("a", "x")
        store.write(6)
        expected = [list(one) for one in self.all_lists(layout, plank, store)]
        for one in self.all_lists(layout, plank, store):
            one.clear()
        out, held = store.write(2)
        out.clear()
        held.clear()
        self.assertEqual(expected[1], store.names())
        self.assertEqual((store.texts("a"), row_to_keep(store, "a")), (["x"], [0, 8, 4, 2]))
        self.assertEqual(walk(layout, plank), [("left", "record", 0)])

    def test_a_list_handed_in_stays_and_may_become_anything(self):
        layout = Layout(1, 1, 1, 2)
        plank = layout.plank()
        values = [1, None]
        plank.write(3, values)
        values[0] = 0
        self.assertEqual(walk(layout, plank), [("marked", 0)])
        hold = Hold(plank)
        needs = []
        hold.change((0, 0), ("a", 0), needs)
        needs.append(7)
        numbers = [0, 0]
        self.assertEqual((row_for(hold, numbers), numbers, hold.needed(0)), ([0], [0, 0], []))

    def test_two_houses_do_not_meet(self):
        layout = Layout(2, 2, 2, 2)
        one, other = House(layout), House(layout)
        one.say("make a")
        one.say("write 6")
        other.say("make b")
        self.assertEqual((one.say("names"), other.say("names")), ("a", "b"))
        one.say("stop")
        self.assertEqual((one.say("names"), other.say("names"), other.plank().writings()), ("-", "b", 0))

    def test_the_same_rows_are_answered_alike(self):
        for seed in range(5):
            chance = chance_of(seed)
            layout = Layout(*sizes_for(chance))
            one, other = House(layout), House(layout)
            for number in range(80):
                names = one.say("names").split(" ")
                row = row_for_house(chance, names, layout.blocks(), number, 0.4)
                self.assertEqual(said(one, row), said(other, row))
                self.assertEqual(state_of(one.plank()), state_of(other.plank()))


if __name__ == "__main__":
    unittest.main()
