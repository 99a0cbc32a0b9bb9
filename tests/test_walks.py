import unittest

from holdback.layouts import Layout
from holdback.stores import Store
from holdback.walks import is_sound, walk
from model import chance_of
from store_model import sizes_for
from walk_model import KINDS, finds_on, has_faults, kind_of, sound_plank, state_of, watched, wild_plank

# Four names, four records, four pieces.
SIZES = (2, 2, 2, 2)
LEAVINGS = ("many", "left", "marked")


def put_together(*parts):
    """Arguments for a plank, of several dicts of such."""
    told = {}
    for part in parts:
        for kind, values in part.items():
            told.setdefault(kind, {}).update(values)
    return told


def led(k, record, name="a", pieces=(), count=1):
    """A name that leads to a record with these pieces, all that is needed marked."""
    return {
        "names": {k: (name, record)}, "records": {record: (count, tuple(pieces))}, "record_marks": {record: 1},
        "pieces": {piece: f"text {piece}" for piece in pieces}, "piece_marks": {piece: 1 for piece in pieces},
    }


class WalkCase(unittest.TestCase):
    def assert_finds(self, finds, *parts, sizes=SIZES):
        plank = watched(sizes, **put_together(*parts))
        layout = Layout(*sizes)
        before = state_of(plank)
        told = walk(layout, plank)
        self.assertEqual(told, finds)
        self.assertEqual({one.__class__ for one in told} | {told.__class__}, {list, tuple} if finds else {list})
        sound = all(find[0] in LEAVINGS for find in finds)
        self.assertIs(is_sound(layout, plank), sound)
        self.assertEqual(state_of(plank), before)
        # The second telling is to say the same by itself.
        self.assertEqual(finds_on(sizes, plank), finds)
        self.assertIs(has_faults(finds), not sound)


class NothingTest(WalkCase):
    def test_a_new_plank(self):
        self.assert_finds([])
        self.assert_finds([], sizes=(1, 1, 1, 1))
        self.assert_finds([], sizes=(6, 6, 6, 6))

    def test_names_with_records_and_pieces(self):
        self.assert_finds([], led(0, 0))
        self.assert_finds([], led(3, 2, pieces=(3, 0, 1)))
        self.assert_finds([], led(0, 3, "a", (2,)), led(2, 0, "b", (0, 1)), led(1, 1, "c"))
        self.assert_finds([], led(0, 1, "a", (0,), 3), led(1, 1, "b", (0,), 3), led(3, 1, "c", (0,), 3))

    def test_marks_of_0_and_texts_that_are_not_named(self):
        nothing = {"record_marks": {0: 0, 1: None, 3: 0}, "piece_marks": {0: 0, 1: None}, "pieces": {0: "x", 1: "y"}}
        self.assert_finds([], nothing)
        self.assert_finds([], nothing, led(1, 2, "a", (2,)))

    def test_every_cell_full(self):
        parts = [led(k, k, "abcdefghijklmnopqrstuvwxyz"[k % 26] * (1 + k // 26), (k,)) for k in range(36)]
        self.assert_finds([], *parts, sizes=(6, 6, 6, 6))


class NameFaultTest(WalkCase):
    def test_lost_with_a_mark(self):
        self.assert_finds([("lost", 0), ("marked", 2)], {"names": {0: ("a", 2)}, "record_marks": {2: 1}})

    def test_lost_without_a_mark_is_free_too(self):
        for mark in (None, 0):
            found = [("lost", 3), ("free", "record", 1)]
            self.assert_finds(found, {"names": {3: ("a", 1)}, "record_marks": {1: mark}})

    def test_several_lost_to_one_record_and_to_several(self):
        names = {0: ("a", 2), 1: ("b", 0), 3: ("c", 2)}
        self.assert_finds(
            [("lost", 0), ("lost", 1), ("lost", 3), ("free", "record", 0), ("marked", 2)],
            {"names": names, "record_marks": {2: 1}},
        )

    def test_lost_beside_one_that_is_not(self):
        lost = {"names": {0: ("a", 1)}, "record_marks": {1: 1}}
        self.assert_finds([("lost", 0), ("marked", 1)], led(1, 0, "b"), lost)

    def test_twice(self):
        self.assert_finds([("twice", 1)], led(0, 0, count=2), led(1, 0, count=2))
        self.assert_finds([("twice", 3)], led(0, 0), led(3, 1))

    def test_twice_of_every_one_but_the_lowest(self):
        self.assert_finds([("twice", 1), ("twice", 3)], led(0, 0), led(1, 1), led(3, 2))
        two = [led(0, 0, "a"), led(1, 1, "b"), led(2, 2, "b"), led(3, 3, "a")]
        self.assert_finds([("twice", 2), ("twice", 3)], *two)

    def test_not_twice_where_only_the_record_is_the_same(self):
        self.assert_finds([], led(0, 0, "a", count=2), led(1, 0, "aa", count=2))

    def test_twice_and_lost(self):
        lost = {"names": {1: ("a", 1)}, "record_marks": {1: 1}}
        self.assert_finds([("lost", 1), ("twice", 1), ("marked", 1)], led(0, 0), lost)


class ThingFaultTest(WalkCase):
    def test_a_piece_named_twice_by_one_record(self):
        self.assert_finds([("shared", 1)], led(0, 0, pieces=(1, 1)))
        self.assert_finds([("shared", 1)], led(0, 0, pieces=(1, 0, 1, 1)))

    def test_a_piece_named_by_two_records(self):
        self.assert_finds([("shared", 2)], led(0, 0, "a", (2, 1)), led(1, 1, "b", (2,)))

    def test_a_piece_named_by_a_record_led_to_and_by_one_that_stands_alone(self):
        left = {"records": {3: (1, (2,))}, "record_marks": {3: 1}}
        self.assert_finds([("shared", 2), ("left", "record", 3)], led(0, 0, "a", (2,)), left)

    def test_a_piece_named_by_two_that_no_name_leads_to(self):
        left = {"records": {0: (1, (2,)), 3: (1, (2,))}, "pieces": {2: "x"}, "piece_marks": {2: 1}}
        found = [("shared", 2), ("left", "record", 0), ("left", "record", 3), ("left", "piece", 2)]
        self.assert_finds(found, left)

    def test_several_shared(self):
        found = [("shared", 0), ("shared", 1), ("shared", 3)]
        self.assert_finds(found, led(0, 0, "a", (3, 0, 1)), led(1, 1, "b", (1, 3, 2)), led(2, 2, "c", (0,)))

    def test_one_record_with_two_names_does_not_name_a_piece_twice(self):
        self.assert_finds([], led(0, 0, "a", (1,), 2), led(1, 0, "b", (1,), 2))

    def test_empty(self):
        self.assert_finds([("empty", 1)], led(0, 0, pieces=(1, 2)), {"pieces": {1: None}})
        found = [("empty", 0), ("empty", 3)]
        self.assert_finds(found, led(0, 0, pieces=(3, 2, 0)), {"pieces": {0: None, 3: None}})

    def test_empty_and_shared(self):
        self.assert_finds([("shared", 1), ("empty", 1)], led(0, 0, pieces=(1, 1)), {"pieces": {1: None}})

    def test_empty_of_a_record_that_no_name_leads_to(self):
        left = {"records": {1: (1, (2,))}, "record_marks": {1: 1}, "piece_marks": {2: 1}}
        self.assert_finds([("empty", 2), ("left", "record", 1), ("left", "piece", 2)], left)

    def test_few(self):
        self.assert_finds([("few", 1)], led(0, 1, "a"), led(2, 1, "b"))
        self.assert_finds([("few", 1)], led(0, 1, "a", count=2), led(2, 1, "b", count=2), led(3, 1, "c", count=2))
        self.assert_finds([("few", 0), ("few", 3)], *[led(k, 3 * (k % 2), "abcd"[k]) for k in range(4)])


class MarkFaultTest(WalkCase):
    def test_a_record_without_a_mark(self):
        for mark in (None, 0):
            self.assert_finds([("free", "record", 2)], led(0, 2), {"record_marks": {2: mark}})

    def test_several_records(self):
        found = [("free", "record", 0), ("free", "record", 3)]
        self.assert_finds(found, led(0, 3, "a"), led(1, 1, "b"), led(2, 0, "c"), {"record_marks": {3: 0, 0: None}})

    def test_a_record_with_two_names_is_told_once(self):
        both = (led(0, 0, "a", count=2), led(1, 0, "b", count=2))
        self.assert_finds([("free", "record", 0)], *both, {"record_marks": {0: 0}})

    def test_a_piece_without_a_mark(self):
        for mark in (None, 0):
            self.assert_finds([("free", "piece", 1)], led(0, 0, pieces=(1, 0)), {"piece_marks": {1: mark}})

    def test_several_pieces(self):
        found = [("free", "piece", 0), ("free", "piece", 2), ("free", "piece", 3)]
        marks = {"piece_marks": {0: 0, 2: None, 3: 0}}
        self.assert_finds(found, led(0, 0, "a", (3, 0)), led(1, 1, "b", (2, 1)), marks)

    def test_a_piece_of_a_record_that_no_name_leads_to(self):
        left = {"records": {1: (1, (2,))}, "record_marks": {1: 1}, "pieces": {2: "x"}}
        for mark in (None, 0):
            self.assert_finds([("free", "piece", 2), ("left", "record", 1)], left, {"piece_marks": {2: mark}})

    def test_records_come_ahead_of_pieces(self):
        marks = {"record_marks": {3: 0}, "piece_marks": {0: 0}}
        self.assert_finds([("free", "record", 3), ("free", "piece", 0)], led(0, 3, pieces=(0,)), marks)


class LeavingTest(WalkCase):
    def test_many(self):
        self.assert_finds([("many", 0, 1)], led(0, 0, count=2))
        self.assert_finds([("many", 0, 1)], led(0, 0, count=10 ** 30))
        self.assert_finds([("many", 2, 2)], led(0, 2, "a", (1,), 3), led(3, 2, "b", (1,), 3))

    def test_a_count_below_as_many_as_and_above(self):
        few, many = [("few", 0)], [("many", 0, 3)]
        for count, found in ((1, few), (2, few), (3, []), (4, many), (9, many)):
            self.assert_finds(found, *[led(k, 0, "abc"[k], count=count) for k in range(3)])

    def test_several_many(self):
        parts = [led(0, 3, "a", count=2), led(1, 0, "b", count=7), led(2, 0, "c", count=7), led(3, 1, "d")]
        self.assert_finds([("many", 0, 2), ("many", 3, 1)], *parts)

    def test_a_record_that_no_name_leads_to(self):
        for mark in (None, 0, 1):
            for count in (1, 2, 40):
                left = {"records": {2: (count, ())}, "record_marks": {2: mark}}
                self.assert_finds([("left", "record", 2)], left)

    def test_left_records_rising(self):
        left = {"records": {3: (1, ()), 0: (2, ()), 2: (1, ())}, "record_marks": {3: 1, 0: 0}}
        found = [("left", "record", 0), ("left", "record", 2), ("left", "record", 3)]
        self.assert_finds(found, left, led(1, 1))

    def test_the_mark_of_a_piece_alone(self):
        self.assert_finds([("left", "piece", 2)], {"piece_marks": {2: 1}})
        self.assert_finds([("left", "piece", 2)], {"piece_marks": {2: 1}, "pieces": {2: "text"}})
        found = [("left", "piece", 0), ("left", "piece", 3)]
        self.assert_finds(found, led(0, 0, pieces=(2,)), {"piece_marks": {3: 1, 0: 1, 1: 0}})

    def test_a_piece_of_a_record_that_no_name_leads_to(self):
        left = {"records": {1: (1, (2, 0))}, "pieces": {2: "x", 0: "y"}, "piece_marks": {2: 1, 0: 1}}
        found = [("left", "record", 1), ("left", "piece", 0), ("left", "piece", 2)]
        for mark in (None, 0, 1):
            self.assert_finds(found, left, {"record_marks": {1: mark}})

    def test_a_piece_of_which_one_record_is_led_to_is_not_left(self):
        both = {"records": {1: (1, (2,)), 0: (1, (2,))}, "names": {0: ("a", 1)}, "record_marks": {1: 1, 0: 1}}
        texts = {"pieces": {2: "x"}, "piece_marks": {2: 1}}
        self.assert_finds([("shared", 2), ("left", "record", 0)], both, texts)

    def test_the_mark_of_a_record_alone(self):
        self.assert_finds([("marked", 1)], {"record_marks": {1: 1}})
        self.assert_finds([("marked", 0), ("marked", 3)], {"record_marks": {0: 1, 1: 0, 3: 1}}, led(0, 2))

    def test_the_mark_of_a_record_that_is_led_to(self):
        self.assert_finds([("lost", 2), ("marked", 1)], {"names": {2: ("a", 1)}, "record_marks": {1: 1}})

    def test_all_leavings(self):
        self.assert_finds(
            [("many", 1, 1), ("left", "record", 0), ("left", "piece", 1), ("left", "piece", 3), ("marked", 2)],
            led(2, 1, "a", (0,), 5), {"records": {0: (1, (3,))}, "pieces": {3: "x"}},
            {"piece_marks": {1: 1, 3: 1}, "record_marks": {2: 1, 3: 0}},
        )


class OrderTest(WalkCase):
    SIZES = (6, 6, 6, 2)

    def test_every_kind_and_several_of_each(self):
        self.assert_finds(
            [
                ("lost", 0), ("lost", 4), ("twice", 4), ("twice", 7), ("shared", 2), ("shared", 9), ("empty", 1),
                ("empty", 9), ("few", 3), ("few", 5), ("free", "record", 5), ("free", "record", 11),
                ("free", "piece", 3), ("free", "piece", 5), ("many", 1, 1), ("many", 2, 1), ("left", "record", 4),
                ("left", "record", 6), ("left", "piece", 0), ("left", "piece", 11), ("marked", 0), ("marked", 10),
            ],
            {
                "names": {
                    0: ("a", 11), 1: ("b", 2), 2: ("c", 1), 3: ("d", 3), 4: ("a", 10), 5: ("e", 3), 6: ("f", 5),
                    7: ("d", 5),
                },
                "records": {1: (2, (9, 1)), 2: (9, (2,)), 3: (1, (3, 2)), 4: (3, ()), 5: (1, (9,)), 6: (1, (5,))},
                "pieces": {2: "two", 3: "three", 5: "five", 11: "x"},
                "record_marks": {0: 1, 1: 1, 2: 1, 3: 1, 4: 0, 5: 0, 6: 1, 10: 1, 11: None},
                "piece_marks": {0: 1, 1: 1, 2: 1, 3: 0, 5: None, 9: 1, 11: 1},
            },
            sizes=self.SIZES,
        )

    def test_the_kinds_in_their_order_whatever_the_numbers(self):
        for seed in range(300):
            chance = chance_of(seed)
            sizes = sizes_for(chance)
            told = walk(Layout(*sizes), wild_plank(chance, sizes))
            keys = [(KINDS.index(kind_of(find)), find[len(kind_of(find))]) for find in told]
            self.assertEqual(keys, sorted(set(keys)))


class ManyPlanksTest(unittest.TestCase):
    def assert_told(self, sizes, plank):
        layout, before = Layout(*sizes), state_of(plank)
        expected = finds_on(sizes, plank)
        self.assertEqual(walk(layout, plank), expected)
        self.assertIs(is_sound(layout, plank), not has_faults(expected))
        self.assertEqual(state_of(plank), before)
        return {kind_of(find) for find in expected}

    def test_planks_with_anything(self):
        met = set()
        for seed in range(500):
            chance = chance_of(seed)
            sizes = sizes_for(chance)
            met |= self.assert_told(sizes, wild_plank(chance, sizes))
        self.assertEqual(met, set(KINDS))

    def test_sound_planks(self):
        met = set()
        for seed in range(200):
            chance = chance_of(seed)
            sizes = sizes_for(chance)
            plank = sound_plank(chance, sizes)
            met |= self.assert_told(sizes, plank)
            self.assertIs(is_sound(Layout(*sizes), plank), True)
        self.assertEqual(met, set(KINDS[7:]))

    def test_the_greatest_planks(self):
        for seed in range(10):
            chance = chance_of(seed)
            self.assert_told((6, 6, 6, 6), wild_plank(chance, (6, 6, 6, 6)))
            self.assert_told((6, 6, 6, 6), sound_plank(chance, (6, 6, 6, 6)))


class AskedAgainTest(unittest.TestCase):
    def setUp(self):
        self.layout = Layout(*SIZES)
        self.plank = watched(SIZES, **put_together(led(0, 0, count=2), {"record_marks": {1: 1}, "piece_marks": {3: 1}}))
        self.finds = [("many", 0, 1), ("left", "piece", 3), ("marked", 1)]

    def test_each_time_a_new_list(self):
        first, second = walk(self.layout, self.plank), walk(self.layout, self.plank)
        self.assertEqual((first, second), (self.finds, self.finds))
        self.assertIsNot(first, second)
        first.clear()
        self.assertEqual((second, walk(self.layout, self.plank)), (self.finds, self.finds))

    def test_a_list_told_stays_as_it_was(self):
        told = walk(self.layout, self.plank)
        for block in range(self.plank.blocks()):
            self.plank.write(block, [None, None])
        self.assertEqual(told, self.finds)
        self.assertEqual(walk(self.layout, self.plank), [])

    def test_it_goes_by_the_plank_not_by_what_is_in_hand(self):
        store = Store(self.layout, self.plank)
        store.cut("a")
        store.make("b")
        self.assertEqual(walk(self.layout, self.plank), self.finds)
        self.assertEqual(store.hold().waiting(), [0, 1, 2, 3, 4])
        store.write(self.layout.name_at(0)[0])
        self.assertEqual(walk(self.layout, self.plank), [("left", "record", 0), ("left", "piece", 3), ("marked", 1)])


if __name__ == "__main__":
    unittest.main()
