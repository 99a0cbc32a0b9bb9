import unittest

from holdback.errors import NotSound
from holdback.layouts import Layout
from holdback.mends import mend
from holdback.planks import Plank
from holdback.walks import is_sound, walk
from model import all_of, chance_of
from store_model import sizes_for
from walk_model import (
    KINDS, changed_blocks, copy_of, finds_on, has_faults, kind_of, mended, sound_plank, state_of, watched, wild_plank,
)

# Names in blocks 0 and 1, records in 2 and 3, pieces in 4 and 5, marks of records in 6 and 7, of pieces in 8
# and 9, two cells in each.
SIZES = (2, 2, 2, 2)
LAYOUT = Layout(*SIZES)
LED = {"names": {0: ("a", 0)}, "records": {0: (1, (0,))}, "pieces": {0: "x"}, "record_marks": {0: 1},
       "piece_marks": {0: 1}}


def plank_with(**more):
    """The plank of LED, with more by number."""
    return watched(SIZES, **{kind: {**LED.get(kind, {}), **more.get(kind, {})} for kind in
                             ("names", "records", "pieces", "record_marks", "piece_marks")})


class MendCase(unittest.TestCase):
    def assert_mended(self, plank, finds, cells, order):
        """The finds, the cells that change with their values, and the blocks that are written."""
        expected, writings = all_of(plank), plank.writings()
        for (block, cell), value in cells.items():
            self.assertNotEqual(repr(expected[block][cell]), repr(value))
            expected[block][cell] = value
        told = mend(LAYOUT, plank)
        self.assertEqual((told, told.__class__), (finds, list))
        self.assertEqual(repr(all_of(plank)), repr(expected))
        self.assertEqual((plank.order, plank.writings()), (order, writings + len(order)))
        self.assert_nothing_left(LAYOUT, plank)

    def assert_nothing_left(self, layout, plank):
        self.assertEqual(walk(layout, plank), [])
        before = state_of(plank)
        self.assertEqual(mend(layout, plank), [])
        self.assertEqual(repr(state_of(plank)), repr(before))


class EachLeavingTest(MendCase):
    def test_nothing_to_mend(self):
        self.assert_mended(watched(SIZES), [], {}, [])
        self.assert_mended(plank_with(), [], {}, [])
        quiet = plank_with(record_marks={1: 0, 2: None}, piece_marks={1: 0}, pieces={1: "old", 2: "old"})
        self.assert_mended(quiet, [], {}, [])

    def test_a_count(self):
        self.assert_mended(plank_with(records={0: (4, (0,))}), [("many", 0, 1)], {(2, 0): (1, (0,))}, [2])
        two = plank_with(names={3: ("b", 0)}, records={0: (10 ** 30, (0,))})
        self.assert_mended(two, [("many", 0, 2)], {(2, 0): (2, (0,))}, [2])

    def test_counts_in_two_blocks_and_in_one(self):
        plank = plank_with(
            names={1: ("b", 1), 2: ("c", 3)}, records={0: (2, (0,)), 1: (3, ()), 3: (4, (2, 3))},
            record_marks={1: 1, 3: 1}, pieces={2: "y", 3: "z"}, piece_marks={2: 1, 3: 1},
        )
        cells = {(2, 0): (1, (0,)), (2, 1): (1, ()), (3, 1): (1, (2, 3))}
        self.assert_mended(plank, [("many", 0, 1), ("many", 1, 1), ("many", 3, 1)], cells, [2, 3])

    def test_a_left_record_with_a_mark(self):
        plank = plank_with(records={3: (1, ())}, record_marks={3: 1})
        self.assert_mended(plank, [("left", "record", 3)], {(3, 1): None, (7, 1): 0}, [3, 7])

    def test_a_left_record_whose_mark_is_none(self):
        plank = plank_with(records={3: (7, ())})
        self.assert_mended(plank, [("left", "record", 3)], {(3, 1): None, (7, 1): 0}, [3, 7])

    def test_a_left_record_whose_mark_is_0_already(self):
        # Nothing is to change in block 7, so it isn't written.
        plank = plank_with(records={3: (1, ())}, record_marks={3: 0})
        self.assert_mended(plank, [("left", "record", 3)], {(3, 1): None}, [3])

    def test_a_left_record_with_pieces(self):
        plank = plank_with(records={1: (1, (3, 2))}, pieces={2: "y", 3: "z"}, piece_marks={2: 1, 3: 1})
        finds = [("left", "record", 1), ("left", "piece", 2), ("left", "piece", 3)]
        # The texts stay.
        self.assert_mended(plank, finds, {(2, 1): None, (6, 1): 0, (9, 0): 0, (9, 1): 0}, [2, 6, 9])

    def test_the_mark_of_a_piece(self):
        self.assert_mended(plank_with(piece_marks={3: 1}), [("left", "piece", 3)], {(9, 1): 0}, [9])
        with_text = plank_with(piece_marks={1: 1}, pieces={1: "stays"})
        self.assert_mended(with_text, [("left", "piece", 1)], {(8, 1): 0}, [8])

    def test_the_mark_of_a_record(self):
        self.assert_mended(plank_with(record_marks={2: 1}), [("marked", 2)], {(7, 0): 0}, [7])
        both = plank_with(record_marks={1: 1, 2: 1, 3: 0})
        self.assert_mended(both, [("marked", 1), ("marked", 2)], {(6, 1): 0, (7, 0): 0}, [6, 7])

    def test_all_of_them(self):
        plank = plank_with(
            names={2: ("b", 2)}, records={0: (3, (0,)), 1: (1, (2,)), 2: (2, ())}, pieces={2: "y", 3: "z"},
            record_marks={2: 1, 3: 1}, piece_marks={1: 1, 2: 1, 3: 1},
        )
        finds = [
            ("many", 0, 1), ("many", 2, 1), ("left", "record", 1), ("left", "piece", 1), ("left", "piece", 2),
            ("left", "piece", 3), ("marked", 3),
        ]
        cells = {
            (2, 0): (1, (0,)), (2, 1): None, (3, 0): (1, ()), (6, 1): 0, (7, 1): 0, (8, 1): 0, (9, 0): 0, (9, 1): 0,
        }
        self.assert_mended(plank, finds, cells, [2, 3, 6, 7, 8, 9])

    def test_a_plain_plank(self):
        plank = Plank(10, 2)
        plank.write(7, [1, None])
        self.assertEqual(mend(LAYOUT, plank), [("marked", 2)])
        self.assertEqual((plank.read(7), plank.writings()), ([0, None], 2))

    def test_the_finds_told_are_the_askers_own(self):
        plank = plank_with(record_marks={2: 1})
        told = mend(LAYOUT, plank)
        plank.write(7, [1, 1])
        again = mend(LAYOUT, plank)
        self.assertEqual((told, again), ([("marked", 2)], [("marked", 2), ("marked", 3)]))
        again.clear()
        self.assertEqual(mend(LAYOUT, plank), [])


class FaultTest(unittest.TestCase):
    FAULTY = (
        ("lost", {"names": {1: ("b", 2)}, "record_marks": {2: 1}}),
        ("lost", {"names": {1: ("b", 2)}}),
        ("twice", {"names": {1: ("a", 1)}, "records": {1: (1, ())}, "record_marks": {1: 1}}),
        ("shared", {"records": {0: (1, (0, 0))}}),
        ("shared", {"records": {2: (1, (0,))}}),
        ("empty", {"pieces": {0: None}}),
        ("empty", {"records": {2: (1, (3,))}, "piece_marks": {3: 1}}),
        ("few", {"names": {1: ("b", 0)}}),
        ("free", {"record_marks": {0: 0}}),
        ("free", {"record_marks": {0: None}}),
        ("free", {"piece_marks": {0: 0}}),
        ("free", {"piece_marks": {0: None}}),
        ("free", {"records": {2: (1, (3,))}, "pieces": {3: "x"}}),
    )
    LEAVINGS = (
        {}, {"record_marks": {3: 1}}, {"piece_marks": {2: 1}}, {"records": {3: (1, ())}},
        {"names": {3: ("z", 3)}, "records": {3: (2, ())}, "record_marks": {3: 1}},
    )

    def test_each_fault_with_and_without_leavings(self):
        for kind, fault in self.FAULTY:
            for leaving in self.LEAVINGS:
                both = {part: {**fault.get(part, {}), **leaving.get(part, {})} for part in {*fault, *leaving}}
                plank = plank_with(**both)
                before = state_of(plank)
                self.assertIn(kind, [find[0] for find in walk(LAYOUT, plank)])
                self.assertIs(is_sound(LAYOUT, plank), False)
                for _ in range(2):
                    with self.assertRaises(NotSound) as caught:
                        mend(LAYOUT, plank)
                    self.assertIs(caught.exception.__class__, NotSound)
                self.assertEqual(repr(state_of(plank)), repr(before))
                self.assertEqual(plank.order, [])


class ManyPlanksTest(MendCase):
    def assert_mended_as_told(self, sizes, plank):
        layout, before = Layout(*sizes), copy_of(plank)
        finds, after = finds_on(sizes, plank), mended(sizes, plank)
        self.assertEqual(mend(layout, plank), finds)
        self.assertEqual(repr(all_of(plank)), repr(after))
        self.assertEqual(plank.order, changed_blocks(all_of(before), after))
        self.assert_nothing_left(layout, plank)
        return {kind_of(find) for find in finds}

    def test_sound_planks(self):
        met = set()
        for seed in range(300):
            chance = chance_of(seed)
            sizes = sizes_for(chance)
            met |= self.assert_mended_as_told(sizes, sound_plank(chance, sizes))
        self.assertEqual(met, set(KINDS[7:]))

    def test_the_greatest_planks(self):
        for seed in range(5):
            self.assert_mended_as_told((6, 6, 6, 6), sound_plank(chance_of(seed), (6, 6, 6, 6)))

    def test_planks_with_anything(self):
        refused = 0
        for seed in range(300):
            chance = chance_of(seed)
            sizes = sizes_for(chance)
            plank = wild_plank(chance, sizes)
            before = state_of(plank)
            if has_faults(finds_on(sizes, plank)):
                refused += 1
                with self.assertRaises(NotSound):
                    mend(Layout(*sizes), plank)
                self.assertEqual(repr(state_of(plank)), repr(before))
            else:
                self.assert_mended_as_told(sizes, plank)
        self.assertGreater(refused, 100)
        self.assertGreater(300 - refused, 20)


if __name__ == "__main__":
    unittest.main()
