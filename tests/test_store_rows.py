"""Long rows of deeds and writings over stores, compared with the model behind each step."""

import unittest

from holdback.brooms import Broom, Fullest, Round
from holdback.layouts import Layout
from holdback.stores import Store
from model import all_of, chance_of
from store_model import POOL, StoreModel, deed_for, done, sizes_for
from walk_model import names_and_texts_on


class Pair:
    """A store and its model over one plank, with each deed done by both."""

    def __init__(self, case, sizes, plank):
        self.case, self.plank, self.layout = case, plank, Layout(*sizes)
        self.writings = plank.writings()
        self.store, self.model = Store(self.layout, plank), StoreModel(sizes, plank)

    def do(self, deed):
        told, expected = done(self.store, deed), done(self.model, deed)
        self.case.assertEqual(told, expected, deed)
        self.writings += deed[0] == "write"
        return told

    def assert_alike(self):
        case, hold, changes = self.case, self.store.hold(), self.model.model
        case.assertEqual(self.model.wrongs(self.plank), [])
        case.assertEqual(repr(all_of(self.plank)), repr(changes.on_plank()))
        case.assertEqual(self.plank.writings(), self.writings)
        case.assertEqual(hold.waiting(), changes.waiting())
        case.assertEqual(self.store.names(), self.model.names())
        for name in POOL:
            case.assertEqual(done(self.store, ("texts", name)), done(self.model, ("texts", name)))
        for place in changes.at_first:
            case.assertEqual(hold.newest(place), changes.newest(place))
            case.assertEqual(repr(hold.in_hand(place)), repr(changes.value_at(place)))

    def assert_needs_alike(self):
        many = len(self.model.model.changes)
        told = [self.store.hold().needed(number) for number in range(many)]
        self.case.assertEqual(told, [self.model.model.needed(number) for number in range(many)])


def step(chance, pair, number, writing):
    if chance.random() < writing:
        return pair.do(("write", chance.randrange(pair.plank.blocks())))
    return pair.do(deed_for(chance, pair.store.names(), number))


class LongRowTest(unittest.TestCase):
    def test_each_step(self):
        for seed in range(40):
            chance = chance_of(seed)
            sizes = sizes_for(chance)
            pair = Pair(self, sizes, Layout(*sizes).plank())
            writing = chance.choice((0.1, 0.4, 0.7))
            for number in range(90):
                step(chance, pair, number, writing)
                pair.assert_alike()
            pair.assert_needs_alike()

    def test_the_same_few_names_over_and_over(self):
        # Few cells, so that each is taken again and again while much waits.
        for seed in range(40):
            chance = chance_of(seed)
            sizes = chance.choice(((1, 1, 1, 2), (2, 1, 1, 1), (1, 1, 1, 3), (2, 2, 2, 1)))
            pair = Pair(self, sizes, Layout(*sizes).plank())
            for number in range(120):
                step(chance, pair, number, 0.3)
                pair.assert_alike()
            pair.assert_needs_alike()

    def test_deeds_do_not_hang_on_what_was_written(self):
        # The same deeds, with and without writings between, make the same changes.
        for seed in range(10):
            chance = chance_of(seed)
            layout = Layout(*sizes_for(chance))
            dry, wet = Store(layout, layout.plank()), Store(layout, layout.plank())
            for number in range(80):
                deed = deed_for(chance, dry.names(), number)
                self.assertEqual(done(dry, deed), done(wet, deed))
                wet.write(chance.randrange(layout.blocks()))
            many = len(dry.hold().waiting())
            for number in range(many):
                self.assertEqual(dry.hold().needed(number), wet.hold().needed(number))

    def test_each_refusal_comes_about(self):
        seen = {}
        for seed in range(20):
            chance = chance_of(seed)
            sizes = sizes_for(chance)
            pair = Pair(self, sizes, Layout(*sizes).plank())
            for number in range(90):
                deed = deed_for(chance, pair.store.names(), number)
                told = pair.do(deed)
                seen.setdefault(deed[0], set()).add("done" if isinstance(told, list) else told.__name__)
        self.assertEqual(seen, {
            "make": {"done", "NoName", "Twice", "NoRoom"},
            "link": {"done", "NoName", "Twice", "NoRoom"},
            "move": {"done", "NoName", "Twice", "NoRoom"},
            "cut": {"done", "NoName"},
            "put": {"done", "NoName", "NoPiece", "NoRoom"},
            "take": {"done", "NoName", "NoPiece"},
        })

    def test_all_gets_to_the_plank(self):
        for seed, broom in enumerate((Broom(), Fullest(), Round()) * 4):
            chance = chance_of(seed)
            sizes = sizes_for(chance)
            pair = Pair(self, sizes, Layout(*sizes).plank())
            for number in range(60):
                step(chance, pair, number, 0.2)
            while pair.store.hold().waiting():
                pair.do(("write", broom.chosen(pair.store.hold())))
                pair.assert_alike()
            self.assertEqual(sorted(names_and_texts_on(pair.layout, pair.plank)), pair.store.names())

    def test_the_oldest_goes_out_by_its_block(self):
        for seed in range(10):
            chance = chance_of(seed)
            sizes = sizes_for(chance)
            pair = Pair(self, sizes, Layout(*sizes).plank())
            for number in range(60):
                step(chance, pair, number, 0)
            while pair.store.hold().waiting():
                oldest = pair.store.hold().waiting()[0]
                out = pair.do(("write", pair.model.model.changes[oldest][0][0]))[0]
                self.assertIn(oldest, out)
                self.assertEqual(pair.model.wrongs(pair.plank), [])


class BegunTest(unittest.TestCase):
    """Stores begun over planks on which a cut of another store's changes stands (point 18)."""

    def assert_begun(self, pair, before):
        self.assertEqual((all_of(pair.plank), pair.plank.writings()), before)
        there = names_and_texts_on(pair.layout, pair.plank)
        self.assertEqual(pair.store.names(), sorted(there))
        for name, texts in there.items():
            self.assertEqual(pair.store.texts(name), texts)
        self.assertEqual(pair.store.hold().waiting(), [])
        for block in range(pair.plank.blocks()):
            for cell, value in enumerate(pair.plank.read(block)):
                self.assertEqual(pair.store.hold().in_hand((block, cell)), value)
                self.assertIsNone(pair.store.hold().newest((block, cell)))

    def test_one_store_behind_the_other(self):
        met = set()
        for seed in range(25):
            chance = chance_of(seed)
            sizes = sizes_for(chance)
            plank = Layout(*sizes).plank()
            for _ in range(6):
                before = (all_of(plank), plank.writings())
                pair = Pair(self, sizes, plank)
                met |= leavings(pair)
                self.assert_begun(pair, before)
                pair.assert_alike()
                for number in range(chance.randint(0, 30)):
                    step(chance, pair, number, 0.5)
                    pair.assert_alike()
        # Else the planks would have been too plain ones.
        self.assertEqual(met, {"many", "left record", "left piece", "marked"})


def leavings(pair):
    def at(place):
        return pair.plank.read(place[0])[place[1]]

    model, found = pair.model, set()
    led = [at(place)[1] for place in model.names_at if at(place) is not None]
    named = {piece for record in led for piece in at(model.records_at[record])[1]}
    for number, place in enumerate(model.records_at):
        stands, mark = at(place), at(model.record_marks[number])
        if stands is None:
            found |= {"marked"} if mark == 1 else set()
        elif number not in led:
            found.add("left record")
        elif stands[0] > led.count(number):
            found.add("many")
    if any(at(mark) == 1 and piece not in named for piece, mark in enumerate(model.piece_marks)):
        found.add("left piece")
    return found


if __name__ == "__main__":
    unittest.main()
