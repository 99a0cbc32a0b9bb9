import unittest

from holdback.brooms import Broom
from holdback.errors import NoBlock, NoName, NoPiece, NoRoom, Twice
from holdback.holds import Hold
from holdback.layouts import Layout
from holdback.stores import Store
from model import all_of
from store_model import settle

FAR = 10 ** 5000
NO_NAMES = ("", "A", "Abc", "abC", "a1", "1", " ", " a", "a ", "a b", "-", "abcdefghi", "a" * 1000, "\n", "a\n")
NO_PIECES = ("", "x" * 41, "%", "50% off", "x" * 1000, " " * 41)


def new_store(names=2, records=2, pieces=2, cells=2):
    layout = Layout(names, records, pieces, cells)
    return Store(layout, layout.plank())


def store_with(*deeds, sizes=(2, 2, 2, 2)):
    store = new_store(*sizes)
    for deed in deeds:
        getattr(store, deed[0])(*deed[1:])
    return store


def told_of(store, numbers):
    """Place, value and needs of each of the changes."""
    hold = store.hold()
    return [(hold.made[number].place, hold.made[number].value, hold.needed(number)) for number in numbers]


def all_in_hand(store):
    hold, cells = store.hold(), range(store.layout().plank().cells())
    places = [(block, cell) for block in range(store.layout().blocks()) for cell in cells]
    return [(hold.in_hand(place), hold.newest(place)) for place in places]


class DeedTest(unittest.TestCase):
    """Over a layout of names in blocks 0 and 1, records in 2 and 3, pieces in 4 and 5, marks of records in
    6 and 7, of pieces in 8 and 9, two cells in each."""

    def assert_deed(self, store, deed, numbers, changes):
        told = getattr(store, deed[0])(*deed[1:])
        self.assertIs(told.__class__, list)
        self.assertEqual(told, numbers)
        self.assertEqual(told_of(store, told), changes)

    def test_make(self):
        store = new_store()
        self.assert_deed(store, ("make", "a"), [0, 1, 2], [
            ((6, 0), 1, []), ((2, 0), (1, ()), [0]), ((0, 0), ("a", 0), [1]),
        ])
        self.assert_deed(store, ("make", "longname"), [3, 4, 5], [
            ((6, 1), 1, []), ((2, 1), (1, ()), [3]), ((0, 1), ("longname", 1), [4]),
        ])
        self.assert_deed(store, ("make", "c"), [6, 7, 8], [
            ((7, 0), 1, []), ((3, 0), (1, ()), [6]), ((1, 0), ("c", 2), [7]),
        ])

    def test_make_takes_what_came_free(self):
        store = store_with(("make", "a"), ("make", "b"), ("cut", "a"))
        # The cut made 6 (cell), 7 (record), 8 (mark).
        self.assert_deed(store, ("make", "c"), [9, 10, 11], [
            ((6, 0), 1, [8]), ((2, 0), (1, ()), [7, 9]), ((0, 0), ("c", 0), [6, 10]),
        ])

    def test_link(self):
        store = store_with(("make", "a"))
        self.assert_deed(store, ("link", "a", "b"), [3, 4], [
            ((2, 0), (2, ()), [1]), ((0, 1), ("b", 0), [3]),
        ])
        self.assert_deed(store, ("link", "b", "c"), [5, 6], [
            ((2, 0), (3, ()), [3]), ((1, 0), ("c", 0), [5]),
        ])

    def test_link_keeps_the_pieces(self):
        store = store_with(("make", "a"), ("put", "a", "one"), ("put", "a", "two"))
        self.assert_deed(store, ("link", "a", "b"), [9, 10], [
            ((2, 0), (2, (0, 1)), [8]), ((0, 1), ("b", 0), [9]),
        ])
        self.assertEqual(store.texts("b"), ["one", "two"])

    def test_cut_of_a_count_of_1_without_pieces(self):
        store = store_with(("make", "a"))
        self.assert_deed(store, ("cut", "a"), [3, 4, 5], [
            ((0, 0), None, [2]), ((2, 0), None, [1, 3]), ((6, 0), 0, [0, 4]),
        ])

    def test_cut_of_a_count_of_1_with_pieces(self):
        store = store_with(
            ("make", "z"), ("make", "a"), ("put", "z", "zero"), ("put", "a", "one"), ("put", "a", "two"),
            ("put", "a", "three"),
        )
        # Made by the puts into a: marks 9, 12, 15, pieces 10, 13, 16, the record 11, 14, 17.
        self.assert_deed(store, ("cut", "a"), [18, 19, 20, 21, 22, 23], [
            ((0, 1), None, [5]), ((2, 1), None, [17, 18]),
            ((8, 1), 0, [9, 19]), ((9, 0), 0, [12, 19]), ((9, 1), 0, [15, 19]), ((6, 1), 0, [3, 19]),
        ])
        self.assertEqual(store.texts("z"), ["zero"])

    def test_cut_marks_the_pieces_in_the_order_of_the_record(self):
        store = store_with(("make", "a"), ("put", "a", "one"), ("put", "a", "two"), ("take", "a", 0), ("put", "a", "x"))
        self.assertEqual(store.hold().in_hand((2, 0)), (1, (1, 0)))
        told = store.cut("a")
        self.assertEqual([change[0] for change in told_of(store, told)], [(0, 0), (2, 0), (8, 1), (8, 0), (6, 0)])

    def test_cut_of_a_count_of_more_than_1(self):
        store = store_with(("make", "a"), ("put", "a", "one"), ("link", "a", "b"), ("link", "a", "c"))
        # 0 to 2 make, 3 to 5 put, 6 and 7, 8 and 9 link.
        self.assert_deed(store, ("cut", "a"), [10, 11], [((0, 0), None, [2]), ((2, 0), (2, (0,)), [8, 10])])
        self.assert_deed(store, ("cut", "c"), [12, 13], [((1, 0), None, [9]), ((2, 0), (1, (0,)), [11, 12])])
        self.assertEqual((store.names(), store.texts("b")), (["b"], ["one"]))
        self.assert_deed(store, ("cut", "b"), [14, 15, 16, 17], [
            ((0, 1), None, [7]), ((2, 0), None, [13, 14]), ((8, 0), 0, [3, 15]), ((6, 0), 0, [0, 15]),
        ])

    def test_put(self):
        store = store_with(("make", "a"), ("make", "b"))
        self.assert_deed(store, ("put", "b", "one"), [6, 7, 8], [
            ((8, 0), 1, []), ((4, 0), "one", [6]), ((2, 1), (1, (0,)), [4, 7]),
        ])
        self.assert_deed(store, ("put", "a", "two"), [9, 10, 11], [
            ((8, 1), 1, []), ((4, 1), "two", [9]), ((2, 0), (1, (1,)), [1, 10]),
        ])
        self.assert_deed(store, ("put", "b", "three"), [12, 13, 14], [
            ((9, 0), 1, []), ((5, 0), "three", [12]), ((2, 1), (1, (0, 2)), [8, 13]),
        ])

    def test_put_keeps_the_count(self):
        store = store_with(("make", "a"), ("link", "a", "b"))
        self.assert_deed(store, ("put", "b", "one"), [5, 6, 7], [
            ((8, 0), 1, []), ((4, 0), "one", [5]), ((2, 0), (2, (0,)), [3, 6]),
        ])

    def test_put_takes_what_came_free(self):
        store = store_with(("make", "a"), ("put", "a", "one"), ("put", "a", "two"), ("take", "a", 0))
        # The take made 9 (record) and 10 (mark of piece 0).
        self.assert_deed(store, ("put", "a", "new"), [11, 12, 13], [
            ((8, 0), 1, [10]), ((4, 0), "new", [4, 11]), ((2, 0), (1, (1, 0)), [9, 12]),
        ])
        self.assertEqual(store.texts("a"), ["two", "new"])

    def test_put_of_texts_at_the_edge(self):
        store = new_store(1, 1, 6, 6)
        store.make("a")
        texts = [" ", "~", "x" * 40, " " * 40, "A b\\'\"", "one"]
        for text in texts:
            store.put("a", text)
        self.assertEqual(store.texts("a"), texts)
        store.put("a", "one")
        self.assertEqual(store.texts("a"), texts + ["one"])

    def test_take(self):
        store = store_with(("make", "a"), ("put", "a", "one"), ("put", "a", "two"), ("put", "a", "three"))
        # Marks of the pieces 3, 6, 9; the record 11.
        self.assert_deed(store, ("take", "a", 1), [12, 13], [((2, 0), (1, (0, 2)), [11]), ((8, 1), 0, [6, 12])])
        self.assertEqual(store.texts("a"), ["one", "three"])
        self.assert_deed(store, ("take", "a", 1), [14, 15], [((2, 0), (1, (0,)), [12]), ((9, 0), 0, [9, 14])])
        self.assert_deed(store, ("take", "a", 0), [16, 17], [((2, 0), (1, ()), [14]), ((8, 0), 0, [3, 16])])
        self.assertEqual(store.texts("a"), [])

    def test_take_keeps_the_count(self):
        store = store_with(("make", "a"), ("put", "a", "one"), ("link", "a", "b"))
        self.assert_deed(store, ("take", "b", 0), [8, 9], [((2, 0), (2, ()), [6]), ((8, 0), 0, [3, 8])])

    def test_move(self):
        store = store_with(("make", "a"), ("put", "a", "one"))
        self.assert_deed(store, ("move", "a", "b"), [6, 7, 8, 9], [
            ((2, 0), (2, (0,)), [5]), ((0, 1), ("b", 0), [6]), ((0, 0), None, [2, 7]), ((2, 0), (1, (0,)), [6, 8]),
        ])
        self.assertEqual((store.names(), store.texts("b")), (["b"], ["one"]))

    def test_move_of_one_of_several(self):
        store = store_with(("make", "a"), ("link", "a", "b"))
        self.assert_deed(store, ("move", "a", "c"), [5, 6, 7, 8], [
            ((2, 0), (3, ()), [3]), ((1, 0), ("c", 0), [5]), ((0, 0), None, [2, 6]), ((2, 0), (2, ()), [5, 7]),
        ])
        self.assertEqual(store.names(), ["b", "c"])

    def test_move_takes_a_free_cell_though_the_old_one_comes_free(self):
        store = store_with(("make", "a"), ("make", "b"), ("cut", "a"), ("move", "b", "c"))
        self.assertEqual(store.hold().in_hand((0, 0)), ("c", 1))
        self.assertIsNone(store.hold().in_hand((0, 1)))
        full = store_with(("make", "a"), ("link", "a", "b"), sizes=(1, 1, 1, 2))
        with self.assertRaises(NoRoom):
            full.move("a", "c")

    def test_a_name_is_on_the_plank_behind_a_move_at_each_moment(self):
        # The new name goes out ahead of the old one, which is held back till then.
        store = new_store(2, 1, 1, 1)
        plank = store.hold().ground
        store.make("a")
        settle(store, Broom())
        store.move("a", "b")
        self.assertEqual(store.write(0), ([], [(5, 4)]))
        self.assertEqual(store.write(2), ([3], [(6, 5)]))
        self.assertEqual(plank.read(2), [(2, ())])
        self.assertEqual(store.write(1), ([4], []))
        self.assertEqual((plank.read(0), plank.read(1)), ([("a", 0)], [("b", 0)]))
        self.assertEqual(store.write(0), ([5], []))
        self.assertEqual(store.write(2), ([6], []))
        self.assertEqual((plank.read(0), plank.read(1), plank.read(2)), ([None], [("b", 0)], [(1, ())]))


class NameComesBackTest(unittest.TestCase):
    """A cell that is given a name needs the newest change that took that name out of a cell."""

    def needs_of(self, store, number, taken):
        self.assertIn(taken, store.hold().needed(number))
        return store.hold().needed(number)

    def test_make_behind_a_cut(self):
        store = store_with(("make", "a"), ("make", "b"), ("cut", "b"), ("make", "c"))
        # 6 took b out; c has its cell, so b comes to another one.
        self.assertEqual(store.make("b"), [12, 13, 14])
        self.assertEqual(told_of(store, [14]), [((1, 0), ("b", 2), [6, 13])])
        self.assertEqual(told_of(store, [11]), [((0, 1), ("c", 1), [6, 10])])

    def test_in_its_own_old_cell_it_is_told_once(self):
        store = store_with(("make", "a"), ("cut", "a"))
        self.assertEqual(store.make("a"), [6, 7, 8])
        self.assertEqual(told_of(store, [8]), [((0, 0), ("a", 0), [3, 7])])

    def test_link_behind_a_cut(self):
        store = store_with(("make", "a"), ("make", "b"), ("make", "c"), ("cut", "a"), ("make", "d"))
        # 9 took a out, d stands in its cell.
        self.assertEqual(store.link("b", "a"), [15, 16])
        self.assertEqual(told_of(store, [16]), [((1, 1), ("a", 1), [9, 15])])

    def test_move_behind_a_cut(self):
        store = store_with(("make", "a"), ("make", "b"), ("cut", "a"), ("make", "d"))
        self.assertEqual(store.move("b", "a"), [12, 13, 14, 15])
        self.assertEqual(told_of(store, [13]), [((1, 0), ("a", 1), [6, 12])])

    def test_make_link_and_move_behind_a_move(self):
        # The move made 3 to 6, of which 5 took a out.
        ahead = (("make", "a"), ("move", "a", "b"), ("make", "c"))
        store = store_with(*ahead)
        self.assertEqual(store.make("a"), [10, 11, 12])
        self.assertEqual(told_of(store, [12]), [((1, 0), ("a", 2), [5, 11])])
        store = store_with(*ahead)
        self.assertEqual(store.link("b", "a"), [10, 11])
        self.assertEqual(told_of(store, [11]), [((1, 0), ("a", 0), [5, 10])])
        store = store_with(*ahead)
        self.assertEqual(store.move("b", "a"), [10, 11, 12, 13])
        self.assertEqual(told_of(store, [11]), [((1, 0), ("a", 0), [5, 10])])

    def test_the_name_that_a_move_gives_is_not_taken_out_by_it(self):
        store = store_with(("make", "a"), ("move", "a", "b"), ("cut", "b"))
        # 7 took b out, not 4, which gave it.
        self.assertEqual(store.make("b"), [10, 11, 12])
        self.assertEqual(told_of(store, [12]), [((0, 0), ("b", 0), [5, 7, 11])])

    def test_the_newest_of_several(self):
        store = store_with(("make", "a"), ("cut", "a"), ("make", "a"), ("make", "b"), ("move", "a", "c"), ("cut", "b"))
        # The cut made 3, the move took a out by 14 and the cell of b came free by 16.
        self.assertEqual(told_of(store, [14]), [((0, 0), None, [8, 13])])
        store.make("d")
        numbers = store.make("a")
        self.assertEqual(self.needs_of(store, numbers[2], 14), [14, 16, numbers[1]])

    def test_also_where_it_is_out(self):
        for deed, place in ((("make", "a"), 2), (("link", "b", "a"), 1), (("move", "b", "a"), 1)):
            store = store_with(("make", "a"), ("make", "b"), ("cut", "a"), ("make", "c"))
            settle(store, Broom())
            self.assertEqual(store.hold().waiting(), [])
            number = getattr(store, deed[0])(*deed[1:])[place]
            self.assertEqual(self.needs_of(store, number, 6), [6, number - 1])

    def test_other_names_need_nothing_of_it(self):
        store = store_with(("make", "a"), ("make", "b"), ("cut", "a"), ("make", "c"))
        self.assertEqual(store.make("d"), [12, 13, 14])
        self.assertEqual(told_of(store, [14]), [((1, 0), ("d", 2), [13])])

    def test_a_new_store_knows_of_none(self):
        layout = Layout(2, 2, 1, 2)
        plank = layout.plank()
        first = Store(layout, plank)
        first.make("a")
        first.cut("a")
        settle(first, Broom())
        second = Store(layout, plank)
        numbers = second.make("a")
        self.assertEqual((numbers, second.hold().needed(2)), ([0, 1, 2], [1]))

    def test_no_name_stands_twice_on_the_plank(self):
        store = new_store(2, 2, 1, 1)
        plank = store.hold().ground
        store.make("b")
        store.make("a")
        settle(store, Broom())
        store.cut("b")
        store.cut("a")
        store.make("a")
        # Cell 0 is given a only when cell 1 has lost it.
        for block in (4, 5, 2, 3, 6, 7, 0):
            store.write(block)
            self.assertNotEqual((plank.read(0)[0] or "x")[0], (plank.read(1)[0] or "y")[0])
        settle(store, Broom())
        self.assertEqual((plank.read(0), plank.read(1)), ([("a", 0)], [None]))


class AskTest(unittest.TestCase):
    def test_names_are_sorted(self):
        store = store_with(("make", "m"), ("make", "z"), ("link", "m", "a"), ("link", "m", "mm"))
        self.assertEqual(store.names(), ["a", "m", "mm", "z"])
        self.assertEqual(new_store().names(), [])

    def test_names_go_by_what_is_in_hand(self):
        store = store_with(("make", "a"), ("make", "b"))
        settle(store, Broom())
        store.cut("a")
        store.move("b", "c")
        self.assertEqual(store.names(), ["c"])

    def test_texts_in_the_order_of_the_pieces(self):
        store = store_with(("make", "a"), ("put", "a", "z"), ("put", "a", "y"), ("put", "a", "x"), ("take", "a", 0))
        store.put("a", "w")
        self.assertEqual(store.texts("a"), ["y", "x", "w"])
        self.assertEqual(store.hold().in_hand((2, 0)), (1, (1, 2, 0)))

    def test_texts_of_two_records_stay_apart(self):
        store = store_with(("make", "a"), ("make", "b"), ("put", "a", "1"), ("put", "b", "2"), ("put", "a", "3"))
        self.assertEqual((store.texts("a"), store.texts("b")), (["1", "3"], ["2"]))

    def test_texts_of_a_name_that_does_not_stand(self):
        store = store_with(("make", "a"), ("make", "b"), ("cut", "b"))
        for name in ("b", "zz", "aa") + NO_NAMES:
            with self.assertRaises(NoName):
                store.texts(name)

    def test_lists_told_are_new_ones(self):
        store = store_with(("make", "b"), ("make", "a"), ("put", "a", "one"), ("put", "a", "two"))
        names, texts = store.names(), store.texts("a")
        self.assertIs(names.__class__, list)
        self.assertIs(texts.__class__, list)
        names.clear()
        texts.append("mine")
        self.assertEqual((store.names(), store.texts("a")), (["a", "b"], ["one", "two"]))

    def test_empty_lists_told_are_new_ones(self):
        store = new_store()
        store.names().append("mine")
        self.assertEqual(store.names(), [])
        store.make("a")
        store.texts("a").append("mine")
        self.assertEqual(store.texts("a"), [])

    def test_lists_told_stay(self):
        store = new_store()
        numbers = store.make("a")
        put = store.put("a", "one")
        names, texts = store.names(), store.texts("a")
        written = store.write(0)
        store.put("a", "two")
        store.take("a", 0)
        store.move("a", "b")
        store.cut("b")
        settle(store, Broom())
        self.assertEqual((numbers, put, names, texts), ([0, 1, 2], [3, 4, 5], ["a"], ["one"]))
        self.assertEqual(written, ([], [(2, 1)]))

    def test_what_becomes_of_a_list_of_a_deed_changes_nothing(self):
        deeds = (
            ("make", "a"), ("link", "a", "b"), ("put", "a", "one"), ("put", "a", "two"), ("take", "a", 0),
            ("move", "a", "c"), ("cut", "b"), ("cut", "c"), ("make", "b"),
        )
        clean, marred = new_store(), new_store()
        for deed in deeds:
            told = getattr(clean, deed[0])(*deed[1:])
            other = getattr(marred, deed[0])(*deed[1:])
            self.assertEqual(told, other)
            other.clear()
            self.assertEqual(all_in_hand(marred), all_in_hand(clean))
        self.assertEqual(
            told_of(marred, marred.hold().waiting()), told_of(clean, clean.hold().waiting())
        )


class WriteTest(unittest.TestCase):
    def test_as_a_hold_is_written(self):
        store = store_with(("make", "a"), ("put", "a", "one"))
        self.assertEqual(store.write(0), ([], [(2, 1)]))
        self.assertEqual(store.write(2), ([], [(1, 0), (5, 1)]))
        self.assertEqual(store.write(6), ([0], []))
        self.assertEqual(store.write(2), ([1], [(5, 4)]))
        self.assertEqual(store.write(0), ([2], []))
        self.assertEqual(store.write(4), ([], [(4, 3)]))
        self.assertEqual(store.write(8), ([3], []))
        self.assertEqual(store.write(4), ([4], []))
        self.assertEqual(store.write(2), ([5], []))
        self.assertEqual(store.write(9), ([], []))

    def test_it_is_written_on_the_plank_and_counted(self):
        layout = Layout(1, 1, 1, 2)
        plank = layout.plank()
        store = Store(layout, plank)
        store.make("a")
        told = store.write(3)
        self.assertIs(told.__class__, tuple)
        self.assertEqual(told, ([0], []))
        self.assertEqual(all_of(plank), [[None, None]] * 3 + [[1, None], [None, None]])
        store.write(4)
        self.assertEqual(plank.writings(), 2)
        self.assertEqual(store.hold().waiting(), [1, 2])

    def test_no_block(self):
        layout = Layout(2, 1, 1, 3)
        plank = layout.plank()
        store = Store(layout, plank)
        store.make("a")
        for bad in (-1, -6, -FAR, 6, 7, FAR):
            with self.assertRaises(NoBlock):
                store.write(bad)
        self.assertEqual((plank.writings(), store.hold().waiting()), (0, [0, 1, 2]))
        self.assertEqual(all_of(plank), [[None] * 3] * 6)

    def test_layout_and_hold_are_the_very_ones(self):
        layout = Layout(1, 1, 1, 1)
        store = Store(layout, layout.plank())
        hold = store.hold()
        self.assertIs(store.layout(), layout)
        self.assertIsInstance(hold, Hold)
        store.make("a")
        store.write(0)
        self.assertIs(store.layout(), layout)
        self.assertIs(store.hold(), hold)
        self.assertEqual(hold.waiting(), [0, 1, 2])

    def test_two_stores_of_one_layout_stay_apart(self):
        layout = Layout(1, 1, 1, 2)
        one, other = Store(layout, layout.plank()), Store(layout, layout.plank())
        one.make("a")
        self.assertIsNot(one.hold(), other.hold())
        self.assertEqual((other.names(), other.hold().waiting()), ([], []))


class RefusalTest(unittest.TestCase):
    """Layouts of 4 names; names a, b, c stand, of which a and b lead to one record with two pieces."""

    def setUp(self):
        self.store = store_with(
            ("make", "a"), ("link", "a", "b"), ("make", "c"), ("put", "a", "one"), ("put", "a", "two"),
        )

    def assert_refused(self, error, deed, store=None):
        store = store or self.store
        plank = store.hold().ground
        for _ in range(2):
            before = (all_in_hand(store), store.hold().waiting(), store.names(), all_of(plank), plank.writings())
            with self.assertRaises(error, msg=deed) as caught:
                getattr(store, deed[0])(*deed[1:])
            self.assertIs(caught.exception.__class__, error, deed)
            after = (all_in_hand(store), store.hold().waiting(), store.names(), all_of(plank), plank.writings())
            self.assertEqual(after, before)

    def full_store(self):
        # No name, record or piece is free.
        return store_with(("make", "a"), ("make", "b"), ("put", "a", "1"), ("put", "b", "2"), sizes=(1, 1, 1, 2))

    def test_a_text_that_is_no_name(self):
        for bad in NO_NAMES:
            self.assert_refused(NoName, ("make", bad))
            self.assert_refused(NoName, ("cut", bad))
            self.assert_refused(NoName, ("put", bad, "text"))
            self.assert_refused(NoName, ("take", bad, 0))
            for kind in ("link", "move"):
                self.assert_refused(NoName, (kind, bad, "d"))
                self.assert_refused(NoName, (kind, "a", bad))
                self.assert_refused(NoName, (kind, bad, bad))

    def test_no_name_is_asked_ahead_of_all_else(self):
        for bad in ("", "A", "abcdefghi"):
            for kind in ("link", "move"):
                # The new one stands already; the old one doesn't stand.
                self.assert_refused(NoName, (kind, bad, "b"))
                self.assert_refused(NoName, (kind, "zz", bad))
            self.assert_refused(NoName, ("put", bad, ""))
            self.assert_refused(NoName, ("take", bad, 7))
            full = self.full_store()
            for deed in (("make", bad), ("link", "a", bad), ("link", bad, "c"), ("move", "a", bad), ("put", bad, "3")):
                self.assert_refused(NoName, deed, full)

    def test_the_new_name_stands_already(self):
        for deed in (("make", "a"), ("make", "c"), ("link", "a", "c"), ("link", "a", "b"), ("move", "c", "a")):
            self.assert_refused(Twice, deed)

    def test_twice_is_asked_ahead_of_a_name_that_does_not_stand(self):
        self.assert_refused(Twice, ("link", "zz", "a"))
        self.assert_refused(Twice, ("move", "zz", "a"))

    def test_twice_is_asked_ahead_of_room(self):
        full = self.full_store()
        for deed in (("make", "a"), ("link", "a", "b"), ("move", "a", "b"), ("link", "zz", "b"), ("move", "zz", "b")):
            self.assert_refused(Twice, deed, full)

    def test_to_itself(self):
        for kind in ("link", "move"):
            self.assert_refused(Twice, (kind, "a", "a"))
            self.assert_refused(NoName, (kind, "zz", "zz"))
            self.assert_refused(NoName, (kind, "A", "A"))

    def test_a_name_that_does_not_stand(self):
        for deed in (("link", "zz", "d"), ("move", "zz", "d"), ("cut", "zz"), ("put", "zz", "x"), ("take", "zz", 0)):
            self.assert_refused(NoName, deed)

    def test_a_name_that_was_cut_or_moved_away(self):
        self.store.cut("b")
        self.store.move("c", "d")
        for name in ("b", "c"):
            for deed in (("link", name, "e"), ("move", name, "e"), ("cut", name), ("put", name, "x"), ("take", name, 0)):
                self.assert_refused(NoName, deed)
        self.assertEqual(len(self.store.make("b")), 3)

    def test_a_name_that_is_on_the_plank_alone(self):
        settle(self.store, Broom())
        self.store.cut("c")
        self.assert_refused(NoName, ("cut", "c"))
        self.assertEqual(len(self.store.make("c")), 3)
        self.assert_refused(Twice, ("make", "c"))

    def test_no_name_stands_is_asked_ahead_of_what_follows(self):
        self.assert_refused(NoName, ("put", "zz", ""))
        self.assert_refused(NoName, ("take", "zz", 7))
        full = self.full_store()
        for deed in (("link", "zz", "c"), ("move", "zz", "c"), ("put", "zz", "3"), ("put", "zz", "")):
            self.assert_refused(NoName, deed, full)

    def test_no_text_of_a_piece(self):
        for bad in NO_PIECES:
            self.assert_refused(NoPiece, ("put", "a", bad))
            self.assert_refused(NoPiece, ("put", "a", bad), self.full_store())

    def test_no_piece_at_that_place(self):
        for at in (-1, -2, -3, -FAR, 2, 3, 300, FAR):
            self.assert_refused(NoPiece, ("take", "a", at))
        for at in (-1, 0, 1):
            self.assert_refused(NoPiece, ("take", "c", at))
        self.store.take("b", 0)
        self.assert_refused(NoPiece, ("take", "a", 1))

    def test_no_room_for_a_name(self):
        self.store.link("c", "d")
        for deed in (("make", "e"), ("link", "a", "e"), ("move", "a", "e")):
            self.assert_refused(NoRoom, deed)
        self.store.cut("b")
        self.assertEqual(len(self.store.move("a", "e")), 4)

    def test_no_room_for_a_record(self):
        # Both names are free, no record is.
        store = store_with(("make", "a"), sizes=(3, 1, 1, 1))
        self.assert_refused(NoRoom, ("make", "b"), store)
        self.assertEqual(store.link("a", "b"), [3, 4])
        self.assert_refused(NoRoom, ("make", "c"), store)

    def test_a_record_is_free_but_no_name(self):
        store = store_with(("make", "a"), sizes=(1, 3, 1, 1))
        for deed in (("make", "b"), ("link", "a", "b"), ("move", "a", "b")):
            self.assert_refused(NoRoom, deed, store)

    def test_no_room_for_a_piece(self):
        store = store_with(("make", "a"), ("put", "a", "1"), sizes=(1, 1, 1, 1))
        self.assert_refused(NoRoom, ("put", "a", "2"), store)
        store.take("a", 0)
        self.assertEqual(len(store.put("a", "2")), 3)
        self.assert_refused(NoRoom, ("put", "a", "3"), store)

    def test_room_comes_back_by_a_cut(self):
        store = self.full_store()
        for deed in (("make", "c"), ("put", "a", "3")):
            self.assert_refused(NoRoom, deed, store)
        store.cut("b")
        self.assertEqual(len(store.put("a", "3")), 3)
        self.assertEqual(len(store.make("c")), 3)
        self.assertEqual((store.names(), store.texts("a"), store.texts("c")), (["a", "c"], ["1", "3"], []))

    def test_what_is_refused_takes_no_number(self):
        number = len(self.store.hold().waiting())
        for error, deed in (
            (NoName, ("make", "A")), (Twice, ("make", "a")), (NoName, ("cut", "zz")), (NoPiece, ("put", "a", "")),
            (NoPiece, ("take", "a", 2)), (Twice, ("move", "a", "b")), (NoName, ("link", "zz", "d")),
        ):
            self.assert_refused(error, deed)
        self.assertEqual(self.store.make("d"), [number, number + 1, number + 2])

    def test_a_refused_deed_takes_no_name_out(self):
        store = store_with(("make", "a"), ("make", "b"), ("make", "c"), ("make", "d"))
        self.assert_refused(NoRoom, ("move", "a", "e"), store)
        store.cut("a")
        self.assertEqual(store.make("a"), [15, 16, 17])
        self.assertEqual(store.hold().needed(17), [12, 16])


class BegunTest(unittest.TestCase):
    """A store begun over a plank that has something (point 18)."""

    def plank_of(self, layout, cells):
        plank = layout.plank()
        for place, value in cells:
            values = plank.read(place[0])
            values[place[1]] = value
            plank.write(place[0], values)
        return plank

    def test_it_has_what_stands_there_and_nothing_is_written(self):
        layout = Layout(1, 1, 1, 2)
        plank = self.plank_of(layout, [
            ((0, 1), ("a", 1)), ((1, 1), (1, (1, 0))), ((2, 0), "zero"), ((2, 1), "one"), ((3, 1), 1), ((4, 0), 1),
            ((4, 1), 1),
        ])
        before = (all_of(plank), plank.writings())
        store = Store(layout, plank)
        self.assertEqual((store.names(), store.texts("a")), (["a"], ["one", "zero"]))
        self.assertEqual((all_of(plank), plank.writings(), store.hold().waiting()), (*before, []))
        with self.assertRaises(NoRoom):
            store.put("a", "more")
        self.assertEqual(store.make("b"), [0, 1, 2])
        self.assertEqual(told_of(store, [0, 1, 2]), [
            ((3, 0), 1, []), ((1, 0), (1, ()), [0]), ((0, 0), ("b", 0), [1]),
        ])
        self.assertEqual(store.take("a", 0), [3, 4])
        self.assertEqual(told_of(store, [3, 4]), [((1, 1), (1, (0,)), []), ((4, 1), 0, [3])])

    def test_over_an_empty_plank(self):
        layout = Layout(1, 1, 1, 2)
        plank = layout.plank()
        store = Store(layout, plank)
        self.assertEqual((store.names(), plank.writings(), store.hold().waiting()), ([], 0, []))

    def test_with_leavings(self):
        # A count above its names, a record that no name leads to, with its piece, and a mark by itself.
        layout = Layout(1, 2, 2, 2)
        plank = self.plank_of(layout, [
            ((0, 0), ("a", 0)), ((1, 0), (3, ())), ((5, 0), 1), ((1, 1), (1, (0,))), ((5, 1), 1), ((3, 0), "left"),
            ((7, 0), 1), ((6, 0), 1), ((7, 1), 1),
        ])
        before = (all_of(plank), plank.writings())
        store = Store(layout, plank)
        self.assertEqual((store.names(), store.texts("a")), (["a"], []))
        self.assertEqual((all_of(plank), plank.writings()), before)
        # What is marked is taken, also where nothing leads to it.
        self.assertEqual(told_of(store, store.put("a", "new"))[1][0], (4, 0))
        self.assertEqual(told_of(store, store.make("b"))[1][0], (2, 1))
        self.assertEqual([change[:2] for change in told_of(store, store.cut("a"))], [
            ((0, 0), None), ((1, 0), (2, (2,))),
        ])

    def test_a_record_that_stands_without_a_mark_is_taken(self):
        layout = Layout(1, 1, 1, 1)
        plank = self.plank_of(layout, [((1, 0), (4, ())), ((2, 0), "old")])
        store = Store(layout, plank)
        self.assertEqual(told_of(store, store.make("a")), [
            ((3, 0), 1, []), ((1, 0), (1, ()), [0]), ((0, 0), ("a", 0), [1]),
        ])
        self.assertEqual(told_of(store, store.put("a", "new")), [
            ((4, 0), 1, []), ((2, 0), "new", [3]), ((1, 0), (1, (0,)), [1, 4]),
        ])


class SizeTest(unittest.TestCase):
    def test_the_greatest_layout_full_and_empty_again(self):
        names = [first + second for first in "abcdef" for second in "uvwxyz"]
        store = new_store(6, 6, 6, 6)
        for turn in range(2):
            for number, name in enumerate(names):
                self.assertEqual(store.hold().in_hand(told_of(store, store.make(name))[2][0]), (name, number))
            for name in names:
                store.put(names[-1], f"{name} {turn}")
            for deed in (("make", "new"), ("link", "au", "new"), ("move", "au", "new"), ("put", "au", "new")):
                with self.assertRaises(NoRoom):
                    getattr(store, deed[0])(*deed[1:])
            self.assertEqual(store.names(), names)
            self.assertEqual(store.texts("fz"), [f"{name} {turn}" for name in names])
            self.assertEqual(len(store.cut("fz")), 39)
            for name in names[:-1]:
                store.cut(name)
            self.assertEqual(store.names(), [])
        settle(store, Broom())
        # Names and records are None again, pieces stay as they were, marks are 0.
        plank = all_of(store.hold().ground)
        self.assertEqual(plank[:12], [[None] * 6] * 12)
        self.assertEqual(sum(plank[12:18], []), [f"{name} 1" for name in names])
        self.assertEqual(plank[18:], [[0] * 6] * 12)


if __name__ == "__main__":
    unittest.main()
