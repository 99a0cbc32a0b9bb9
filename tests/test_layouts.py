import itertools
import unittest

from holdback.layouts import Layout
from holdback.planks import Plank
from model import all_of

SIZES = list(itertools.product(range(1, 7), repeat=4))


def places_in_turn(names, records, pieces, cells):
    """The places of names, records, pieces, record marks, piece marks, told by walking over the plank."""
    turn = iter([(block, cell) for block in range(names + 2 * records + 2 * pieces) for cell in range(cells)])
    told = [list(itertools.islice(turn, many * cells)) for many in (names, records, pieces, records, pieces)]
    return told, list(turn)


def places_told(layout):
    names, records, pieces = layout.counts()
    return [
        [layout.name_at(k) for k in range(names)],
        [layout.record_at(k) for k in range(records)],
        [layout.piece_at(k) for k in range(pieces)],
        [layout.record_mark(k) for k in range(records)],
        [layout.piece_mark(k) for k in range(pieces)],
    ]


class PlacesTest(unittest.TestCase):
    def test_one_layout_by_hand(self):
        layout = Layout(2, 3, 1, 4)
        self.assertEqual(layout.counts(), (8, 12, 4))
        self.assertEqual(layout.blocks(), 10)
        self.assertEqual([layout.name_at(k) for k in (0, 3, 4, 7)], [(0, 0), (0, 3), (1, 0), (1, 3)])
        self.assertEqual([layout.record_at(k) for k in (0, 3, 4, 11)], [(2, 0), (2, 3), (3, 0), (4, 3)])
        self.assertEqual([layout.piece_at(k) for k in (0, 1, 3)], [(5, 0), (5, 1), (5, 3)])
        self.assertEqual([layout.record_mark(k) for k in (0, 5, 11)], [(6, 0), (7, 1), (8, 3)])
        self.assertEqual([layout.piece_mark(k) for k in (0, 2, 3)], [(9, 0), (9, 2), (9, 3)])

    def test_the_smallest(self):
        layout = Layout(1, 1, 1, 1)
        self.assertEqual((layout.counts(), layout.blocks()), ((1, 1, 1), 5))
        self.assertEqual(places_told(layout), [[(0, 0)], [(1, 0)], [(2, 0)], [(3, 0)], [(4, 0)]])

    def test_the_greatest(self):
        layout = Layout(6, 6, 6, 6)
        self.assertEqual((layout.counts(), layout.blocks()), ((36, 36, 36), 30))
        self.assertEqual([told[-1] for told in places_told(layout)], [(5, 5), (11, 5), (17, 5), (23, 5), (29, 5)])

    def test_each_number_has_its_own_place_in_the_four(self):
        self.assertEqual(Layout(1, 2, 3, 4).counts(), (4, 8, 12))
        self.assertEqual(Layout(4, 3, 2, 1).counts(), (4, 3, 2))

    def test_counts_and_blocks_of_all(self):
        for names, records, pieces, cells in SIZES:
            layout = Layout(names, records, pieces, cells)
            counts = layout.counts()
            self.assertEqual(counts, (names * cells, records * cells, pieces * cells))
            self.assertIs(counts.__class__, tuple)
            self.assertEqual(layout.blocks(), names + records + pieces + records + pieces)

    def test_places_of_all(self):
        for sizes in SIZES:
            told = places_told(Layout(*sizes))
            expected, left = places_in_turn(*sizes)
            self.assertEqual(left, [])
            self.assertEqual(told, expected)

    def test_no_place_for_two_things_and_none_left_over(self):
        for sizes in SIZES:
            layout = Layout(*sizes)
            told = [place for places in places_told(layout) for place in places]
            plank = layout.plank()
            there = {(block, cell) for block in range(plank.blocks()) for cell in range(plank.cells())}
            self.assertEqual(len(told), len(set(told)))
            self.assertEqual(set(told), there)

    def test_places_are_tuples_of_two_whole_numbers(self):
        for sizes in ((1, 1, 1, 1), (2, 3, 4, 5), (6, 6, 6, 6)):
            for place in [place for places in places_told(Layout(*sizes)) for place in places]:
                self.assertIs(place.__class__, tuple)
                self.assertEqual([number.__class__ for number in place], [int, int])

    def test_asked_again_the_same_is_told(self):
        layout = Layout(3, 2, 5, 3)
        first = places_told(layout)
        layout.plank()
        self.assertEqual(places_told(layout), first)
        self.assertEqual((layout.counts(), layout.blocks()), ((9, 6, 15), 17))

    def test_numbers_somewhat_beyond_are_not_refused(self):
        layout = Layout(7, 8, 2, 9)
        self.assertEqual((layout.counts(), layout.blocks()), ((63, 72, 18), 27))
        self.assertEqual(places_told(layout), places_in_turn(7, 8, 2, 9)[0])


class PlankTest(unittest.TestCase):
    def test_a_plank_of_so_many_blocks_and_cells_all_none_none_written(self):
        for sizes in SIZES:
            plank = Layout(*sizes).plank()
            names, records, pieces, cells = sizes
            blocks = names + 2 * records + 2 * pieces
            self.assertIsInstance(plank, Plank)
            self.assertEqual((plank.blocks(), plank.cells(), plank.writings()), (blocks, cells, 0))
            self.assertEqual(all_of(plank), [[None] * cells] * blocks)

    def test_each_time_a_new_one(self):
        layout = Layout(1, 2, 1, 2)
        first = layout.plank()
        first.write(0, ["mine", 7])
        second = layout.plank()
        self.assertIsNot(first, second)
        self.assertEqual((second.read(0), second.writings()), ([None, None], 0))
        second.write(6, [1, 0])
        self.assertEqual(all_of(first), [["mine", 7]] + [[None, None]] * 6)


if __name__ == "__main__":
    unittest.main()
