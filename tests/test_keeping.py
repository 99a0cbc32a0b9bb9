import unittest

from holdback.brooms import Broom
from holdback.errors import NoName, NoRoom, NotSound, Twice
from holdback.keeping import come_up, row_to_keep
from holdback.layouts import Layout
from holdback.stores import Store
from holdback.walks import walk
from house_model import row_in_model
from model import all_of, chance_of
from store_model import NO_NAMES, POOL, StoreModel, deed_for, done, settle, sizes_for
from walk_model import (
    copy_of, finds_on, has_faults, mended, names_and_texts_in, names_and_texts_on, sound_plank, state_of, watched,
    wild_plank,
)

# Names in blocks 0 and 1, records in 2 and 3, pieces in 4 and 5, marks of records in 6 and 7, of pieces in 8
# and 9, two cells in each.
SIZES = (2, 2, 2, 2)
LAYOUT = Layout(*SIZES)


def store_with(*deeds, plank=None):
    store = Store(LAYOUT, LAYOUT.plank() if plank is None else plank)
    for deed in deeds:
        getattr(store, deed[0])(*deed[1:])
    return store


def write_row(store, row):
    return [store.write(block) for block in row]


def told_of(store, numbers):
    hold = store.hold()
    return [(hold.made[number].place, hold.made[number].value, hold.needed(number)) for number in numbers]


class RowTest(unittest.TestCase):
    def assert_kept(self, store, name, row):
        plank, texts = store.hold().ground, store.texts(name)
        before = (state_of(plank), store.hold().waiting())
        told = row_to_keep(store, name)
        self.assertEqual((told, told.__class__), (row, list))
        self.assertEqual((state_of(plank), store.hold().waiting()), before)
        for out, _ in write_row(store, told):
            self.assertNotEqual(out, [])
        self.assertEqual(names_and_texts_on(LAYOUT, plank)[name], texts)
        self.assertEqual(row_to_keep(store, name), [])
        # A stop: whatever is in hand is lost.
        self.assertEqual(come_up(LAYOUT, copy_of(plank)).texts(name), texts)

    def test_a_name_without_pieces(self):
        self.assert_kept(store_with(("make", "a")), "a", [6, 2, 0])

    def test_a_name_with_pieces(self):
        store = store_with(("make", "a"), ("put", "a", "x"))
        # 1 is the record, 5 the record with its piece, which needs 4.
        self.assert_kept(store, "a", [6, 2, 0, 8, 4, 2])
        store.put("a", "y")
        self.assert_kept(store, "a", [8, 4, 2])
        store.put("a", "z")
        self.assert_kept(store, "a", [9, 5, 2])

    def test_what_other_names_have_waits_where_it_is_not_needed(self):
        store = store_with(("make", "a"), ("make", "b"), ("make", "c"), ("put", "c", "x"))
        # Record and mark of c stand in blocks 3 and 7, its name in block 1.
        self.assert_kept(store, "c", [7, 3, 1, 8, 4, 3])
        self.assertEqual(store.hold().waiting(), [0, 1, 2, 3, 4, 5])
        self.assertEqual(names_and_texts_on(LAYOUT, store.hold().ground), {"c": ["x"]})
        self.assert_kept(store, "b", [6, 2, 0])
        # Those of a went out beside those of b.
        self.assert_kept(store, "a", [])

    def test_the_changes_of_the_record_through_another_name(self):
        store = store_with(("make", "a"), ("link", "a", "b"))
        settle(store, Broom())
        store.put("b", "x")
        self.assert_kept(store, "a", [8, 4, 2])
        store.link("a", "c")
        # The newest change at the record is the link's; the new name's own cell isn't asked for.
        self.assert_kept(store, "b", [2])
        self.assertEqual(sorted(names_and_texts_on(LAYOUT, store.hold().ground)), ["a", "b"])
        self.assert_kept(store, "c", [1])

    def test_behind_take_and_put(self):
        store = store_with(("make", "a"), ("put", "a", "x"), ("put", "a", "y"), ("take", "a", 0), ("put", "a", "z"))
        # z comes to the piece of x, when the record without it and its mark of 0 are out.
        self.assert_kept(store, "a", [6, 2, 0, 8, 4, 2, 8, 4, 2])
        self.assertEqual(store.hold().ground.read(2)[0], (1, (1, 0)))

    def test_behind_a_move(self):
        store = store_with(("make", "a"), ("put", "a", "x"))
        settle(store, Broom())
        store.move("a", "b")
        # 6 the record, 7 the new cell, 8 the old cell, 9 the record: the two cells stand in one block.
        self.assert_kept(store, "b", [2, 0, 2])
        self.assertEqual(names_and_texts_on(LAYOUT, store.hold().ground), {"b": ["x"]})

    def test_a_name_cut_and_made_again(self):
        store = store_with(("make", "a"), ("put", "a", "x"))
        settle(store, Broom())
        for deed in (("make", "b"), ("cut", "a"), ("make", "a"), ("put", "a", "new")):
            getattr(store, deed[0])(*deed[1:])
        row = row_to_keep(store, "a")
        write_row(store, row)
        self.assertEqual(names_and_texts_on(LAYOUT, store.hold().ground)["a"], ["new"])

    def test_nothing_was_changed_since_the_store_was_begun(self):
        first = store_with(("make", "a"), ("put", "a", "x"), ("put", "a", "y"))
        settle(first, Broom())
        plank = first.hold().ground
        self.assert_kept(store_with(plank=plank), "a", [])
        # Only the record and the new piece have changes.
        self.assert_kept(store_with(("put", "a", "z"), plank=plank), "a", [9, 5, 2])
        self.assert_kept(store_with(("take", "a", 0), plank=plank), "a", [2])
        # Only the cell and the record.
        self.assert_kept(store_with(("link", "a", "b"), plank=plank), "b", [2, 0])

    def test_of_what_is_out_in_part(self):
        store = store_with(("make", "a"), ("put", "a", "x"))
        write_row(store, [6, 8, 4])
        # 1 and 5 go out by one writing of the records now.
        self.assert_kept(store, "a", [2, 0])

    def test_it_stays_till_it_is_cut(self):
        store = store_with(("make", "a"), ("put", "a", "x"))
        write_row(store, row_to_keep(store, "a"))
        for deed in (("make", "b"), ("put", "b", "y"), ("link", "b", "c"), ("cut", "b")):
            getattr(store, deed[0])(*deed[1:])
            for block in range(LAYOUT.blocks()):
                store.write(block)
                self.assertEqual(come_up(LAYOUT, copy_of(store.hold().ground)).texts("a"), ["x"])
        store.cut("a")
        settle(store, Broom())
        self.assertEqual(come_up(LAYOUT, store.hold().ground).names(), ["c"])

    def test_the_rows_told_are_the_askers_own(self):
        store = store_with(("make", "a"))
        first, second = row_to_keep(store, "a"), row_to_keep(store, "a")
        self.assertIsNot(first, second)
        first.clear()
        store.put("a", "x")
        self.assertEqual((second, row_to_keep(store, "a")), ([6, 2, 0], [6, 2, 0, 8, 4, 2]))

    def test_as_the_second_telling_has_it(self):
        for seed in range(60):
            chance = chance_of(seed)
            sizes = sizes_for(chance)
            plank = chance.choice((sound_plank(chance, sizes), Layout(*sizes).plank()))
            store, model = Store(Layout(*sizes), plank), StoreModel(sizes, plank)
            for number in range(40):
                deed = deed_for(chance, store.names(), number)
                if chance.random() < 0.3:
                    deed = ("write", chance.randrange(plank.blocks()))
                self.assertEqual(done(store, deed), done(model, deed))
                for name in store.names():
                    self.assertEqual(row_to_keep(store, name), row_in_model(model, name))


class NoNameTest(unittest.TestCase):
    def assert_no_name(self, store, name):
        before = (state_of(store.hold().ground), store.hold().waiting(), names_and_texts_in(store))
        with self.assertRaises(NoName) as caught:
            row_to_keep(store, name)
        self.assertIs(caught.exception.__class__, NoName)
        self.assertEqual((state_of(store.hold().ground), store.hold().waiting(), names_and_texts_in(store)), before)

    def test_texts_that_are_no_names(self):
        store = store_with(("make", "a"), ("put", "a", "x"))
        for text in NO_NAMES + ("a ", " a", "-", "0", "x" * 1000):
            self.assert_no_name(store, text)

    def test_names_that_do_not_stand(self):
        self.assert_no_name(store_with(), "a")
        store = store_with(("make", "a"), ("make", "b"))
        settle(store, Broom())
        store.cut("a")
        store.move("b", "c")
        # a and b stand on the plank still, but not in hand.
        for name in ("a", "b", "d", "longname"):
            self.assert_no_name(store, name)
        # c came to the cell of a, which has to be emptied first.
        self.assertEqual(row_to_keep(store, "c"), [0, 2, 0, 2])


class BegunTest(unittest.TestCase):
    """Stores begun over sound planks with leavings: nothing is written, and all is kept as it is."""

    def test_what_stands_there_stands_in_hand(self):
        for seed in range(60):
            chance = chance_of(seed)
            sizes = sizes_for(chance)
            layout, plank = Layout(*sizes), sound_plank(chance, sizes)
            before = state_of(plank)
            store = Store(layout, plank)
            self.assertEqual(names_and_texts_in(store), names_and_texts_on(layout, plank))
            for block, values in enumerate(before[0]):
                self.assertEqual([store.hold().in_hand((block, cell)) for cell in range(sizes[3])], values)
            self.assertEqual((state_of(plank), store.hold().waiting()), (before, []))
            for name in store.names():
                self.assertEqual(row_to_keep(store, name), [])


class ComeUpTest(unittest.TestCase):
    def plank_with_leavings(self):
        return watched(
            SIZES, names={1: ("b", 2)}, records={0: (1, (1,)), 2: (3, (2,))}, pieces={1: "left", 2: "two"},
            record_marks={0: 1, 1: 1, 2: 1}, piece_marks={0: 1, 1: 1, 2: 1},
        )

    def test_it_is_mended_first(self):
        plank = self.plank_with_leavings()
        finds = [("many", 2, 1), ("left", "record", 0), ("left", "piece", 0), ("left", "piece", 1), ("marked", 1)]
        self.assertEqual(walk(LAYOUT, plank), finds)
        expected = mended(SIZES, plank)
        store = come_up(LAYOUT, plank)
        self.assertIsInstance(store, Store)
        self.assertEqual((all_of(plank), plank.order), (expected, [2, 3, 6, 8]))
        self.assertEqual((walk(LAYOUT, plank), store.hold().waiting()), ([], []))
        self.assertEqual((store.names(), store.texts("b")), (["b"], ["two"]))
        self.assertIs(store.layout(), LAYOUT)

    def test_where_nothing_is_to_be_mended_nothing_is_written(self):
        plank = LAYOUT.plank()
        self.assertEqual((come_up(LAYOUT, plank).names(), plank.writings()), ([], 0))
        store = store_with(("make", "a"), plank=plank)
        settle(store, Broom())
        before = state_of(plank)
        self.assertEqual(come_up(LAYOUT, plank).names(), ["a"])
        self.assertEqual(state_of(plank), before)

    def test_deeds_go_on_with_numbers_from_0_on(self):
        store = come_up(LAYOUT, self.plank_with_leavings())
        self.assertEqual(store.make("a"), [0, 1, 2])
        # Record 0 and piece 0 are free again.
        self.assertEqual(told_of(store, [0, 1, 2]), [
            ((6, 0), 1, []), ((2, 0), (1, ()), [0]), ((0, 0), ("a", 0), [1]),
        ])
        self.assertEqual(told_of(store, store.put("b", "new")), [
            ((8, 0), 1, []), ((4, 0), "new", [3]), ((3, 0), (1, (2, 0)), [4]),
        ])
        self.assertEqual(told_of(store, store.cut("b")), [
            ((0, 1), None, []), ((3, 0), None, [5, 6]), ((9, 0), 0, [7]), ((8, 0), 0, [3, 7]), ((7, 0), 0, [7]),
        ])
        settle(store, Broom())
        self.assertEqual(names_and_texts_on(LAYOUT, store.hold().ground), {"a": []})
        self.assertEqual(walk(LAYOUT, store.hold().ground), [])

    def test_refusals_go_on(self):
        store = come_up(LAYOUT, self.plank_with_leavings())
        for error, deed in ((Twice, ("make", "b")), (NoName, ("cut", "a")), (NoName, ("make", "B"))):
            with self.assertRaises(error):
                getattr(store, deed[0])(*deed[1:])
        for name in ("a", "c", "d"):
            store.link("b", name)
        with self.assertRaises(NoRoom):
            store.link("b", "e")

    def test_what_was_in_hand_is_lost(self):
        first = store_with(("make", "a"), ("put", "a", "x"))
        settle(first, Broom())
        first.put("a", "y")
        first.make("b")
        first.cut("a")
        first.write(8)
        plank = first.hold().ground
        second = come_up(LAYOUT, plank)
        self.assertEqual(names_and_texts_in(second), {"a": ["x"]})
        self.assertEqual((second.hold().waiting(), plank.read(8)), ([], [1, 0]))

    def test_what_was_taken_out_ahead_is_not_known(self):
        first = store_with(("make", "a"), ("make", "b"), ("cut", "a"), ("make", "c"))
        settle(first, Broom())
        second = come_up(LAYOUT, first.hold().ground)
        self.assertEqual(second.make("a"), [0, 1, 2])
        self.assertEqual(second.hold().needed(2), [1])

    def test_faults_are_refused_and_the_plank_stays(self):
        faulty = (
            watched(SIZES, names={0: ("a", 0)}),
            watched(SIZES, names={0: ("a", 0)}, records={0: (1, ())}, record_marks={3: 1}),
            watched(SIZES, records={0: (1, (1, 1))}, pieces={1: "x"}, piece_marks={1: 1, 2: 1}),
        )
        for plank in faulty:
            before = state_of(plank)
            with self.assertRaises(NotSound) as caught:
                come_up(LAYOUT, plank)
            self.assertIs(caught.exception.__class__, NotSound)
            self.assertEqual(state_of(plank), before)

    def test_many_planks(self):
        for seed in range(120):
            chance = chance_of(seed)
            sizes = sizes_for(chance)
            layout = Layout(*sizes)
            plank = chance.choice((sound_plank, wild_plank))(chance, sizes)
            before = state_of(plank)
            if has_faults(finds_on(sizes, plank)):
                with self.assertRaises(NotSound):
                    come_up(layout, plank)
                self.assertEqual(state_of(plank), before)
            else:
                names, expected = names_and_texts_on(layout, plank), mended(sizes, plank)
                self.assertEqual(names_and_texts_in(come_up(layout, plank)), names)
                self.assertEqual(all_of(plank), expected)

    def test_deeds_behind_it_as_the_second_telling_has_them(self):
        for seed in range(40):
            chance = chance_of(seed)
            sizes = sizes_for(chance)
            plank = sound_plank(chance, sizes)
            store = come_up(Layout(*sizes), plank)
            model = StoreModel(sizes, plank)
            for number in range(50):
                deed = deed_for(chance, store.names(), number)
                if chance.random() < 0.4:
                    deed = ("write", chance.randrange(plank.blocks()))
                self.assertEqual(done(store, deed), done(model, deed))
                self.assertEqual(model.wrongs(plank), [])
                for name in POOL:
                    self.assertEqual(done(store, ("texts", name)), done(model, ("texts", name)))


if __name__ == "__main__":
    unittest.main()
