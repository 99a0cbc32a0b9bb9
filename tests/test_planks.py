import unittest

from holdback.errors import NoBlock
from holdback.planks import Plank


def all_of(plank):
    return [plank.read(block) for block in range(plank.blocks())]


class ReadAndWriteTest(unittest.TestCase):
    def test_a_new_plank_has_none_in_every_cell(self):
        self.assertEqual(all_of(Plank(3, 2)), [[None, None], [None, None], [None, None]])

    def test_a_block_is_a_list(self):
        plank = Plank(1, 2)
        self.assertIsInstance(plank.read(0), list)
        plank.write(0, [1, 2])
        self.assertIsInstance(plank.read(0), list)

    def test_a_block_is_what_was_written_last(self):
        plank = Plank(2, 3)
        plank.write(1, [1, "a", None])
        self.assertEqual(plank.read(1), [1, "a", None])
        plank.write(1, [(1, (2, 3)), None, -10 ** 30])
        self.assertEqual(plank.read(1), [(1, (2, 3)), None, -10 ** 30])
        plank.write(1, [None, None, None])
        self.assertEqual(plank.read(1), [None, None, None])

    def test_other_blocks_stay(self):
        plank = Plank(4, 2)
        for block in (2, 0, 3):
            plank.write(block, [block, f"b{block}"])
        self.assertEqual(all_of(plank), [[0, "b0"], [None, None], [2, "b2"], [3, "b3"]])

    def test_values_stay_of_their_kinds(self):
        plank = Plank(1, 4)
        values = [None, 0, "", ()]
        plank.write(0, values)
        self.assertEqual([repr(value) for value in plank.read(0)], ["None", "0", "''", "()"])

    def test_writing_tells_nothing(self):
        self.assertIsNone(Plank(1, 1).write(0, [1]))


class SizeTest(unittest.TestCase):
    def test_blocks_and_cells(self):
        for blocks, cells in ((1, 1), (1, 40), (40, 1), (3, 2), (2, 3), (40, 40)):
            with self.subTest(blocks=blocks, cells=cells):
                plank = Plank(blocks, cells)
                self.assertEqual((plank.blocks(), plank.cells()), (blocks, cells))
                self.assertEqual(all_of(plank), [[None] * cells] * blocks)

    def test_sizes_stay_when_written(self):
        plank = Plank(3, 2)
        plank.write(2, [1, 2])
        self.assertEqual((plank.blocks(), plank.cells()), (3, 2))

    def test_one_by_one(self):
        plank = Plank(1, 1)
        plank.write(0, ["only"])
        self.assertEqual(plank.read(0), ["only"])
        self.assertEqual(plank.writings(), 1)

    def test_forty_by_forty(self):
        plank = Plank(40, 40)
        told = [[40 * block + cell for cell in range(40)] for block in range(40)]
        for block in reversed(range(40)):
            plank.write(block, told[block])
        self.assertEqual(all_of(plank), told)
        self.assertEqual(plank.writings(), 40)

    def test_somewhat_beyond_the_bounds_nothing_is_refused(self):
        plank = Plank(41, 42)
        plank.write(40, list(range(42)))
        self.assertEqual(plank.read(40), list(range(42)))


class WritingsTest(unittest.TestCase):
    def test_none_at_first(self):
        self.assertEqual(Plank(2, 2).writings(), 0)

    def test_each_writing_counts(self):
        plank = Plank(2, 1)
        for count, block in enumerate((0, 1, 1, 0, 0), start=1):
            plank.write(block, [count])
            self.assertEqual(plank.writings(), count)

    def test_a_writing_that_changes_nothing_counts(self):
        plank = Plank(1, 1)
        plank.write(0, plank.read(0))
        plank.write(0, plank.read(0))
        self.assertEqual(plank.writings(), 2)

    def test_reading_and_asking_do_not_count(self):
        plank = Plank(2, 2)
        plank.write(0, [1, 2])
        all_of(plank)
        plank.cells()
        plank.writings()
        self.assertEqual(plank.writings(), 1)


class SideBySideTest(unittest.TestCase):
    def test_two_planks_have_nothing_in_common(self):
        one, other = Plank(2, 2), Plank(2, 2)
        one.write(0, [1, 2])
        self.assertEqual(all_of(one), [[1, 2], [None, None]])
        self.assertEqual(all_of(other), [[None, None], [None, None]])
        self.assertEqual((one.writings(), other.writings()), (1, 0))

    def test_two_planks_written_by_one_list(self):
        one, other = Plank(1, 2), Plank(1, 2)
        values = [1, 2]
        one.write(0, values)
        other.write(0, values)
        one.write(0, [3, 4])
        self.assertEqual((one.read(0), other.read(0)), ([3, 4], [1, 2]))

    def test_planks_of_other_sizes(self):
        small, large = Plank(1, 1), Plank(3, 3)
        self.assertEqual((small.blocks(), small.cells()), (1, 1))
        self.assertEqual((large.blocks(), large.cells()), (3, 3))


class RefusalTest(unittest.TestCase):
    def setUp(self):
        self.plank = Plank(3, 2)
        for block in range(3):
            self.plank.write(block, [block, -block])

    def assert_as_it_was(self):
        self.assertEqual(all_of(self.plank), [[0, 0], [1, -1], [2, -2]])
        self.assertEqual(self.plank.writings(), 3)
        self.assertEqual((self.plank.blocks(), self.plank.cells()), (3, 2))

    def test_no_such_block_to_read(self):
        for block in (-1, -2, -3, -4, -100, 3, 4, 40, 10 ** 30, -10 ** 30):
            with self.subTest(block=block):
                with self.assertRaises(NoBlock):
                    self.plank.read(block)
                self.assert_as_it_was()

    def test_no_such_block_to_write(self):
        for block in (-1, -2, -3, -4, -100, 3, 4, 40, 10 ** 30, -10 ** 30):
            with self.subTest(block=block):
                with self.assertRaises(NoBlock):
                    self.plank.write(block, ["x", "y"])
                self.assert_as_it_was()

    def test_numbers_too_long_to_be_written_out(self):
        for block in (10 ** 5000, -10 ** 5000):
            with self.assertRaises(NoBlock):
                self.plank.read(block)
            with self.assertRaises(NoBlock):
                self.plank.write(block, ["x", "y"])
            self.assert_as_it_was()

    def test_a_list_not_as_long_as_a_block(self):
        for values in ([], ["x"], ["x", "y", "z"], ["x"] * 300):
            for block in range(3):
                with self.subTest(values=values, block=block):
                    with self.assertRaises(NoBlock):
                        self.plank.write(block, values)
                    self.assert_as_it_was()

    def test_no_such_block_and_a_list_not_as_long(self):
        for block in (-1, 3):
            for values in ([], ["x"], ["x", "y", "z"]):
                with self.subTest(values=values, block=block):
                    with self.assertRaises(NoBlock):
                        self.plank.write(block, values)
                    self.assert_as_it_was()

    def test_a_list_as_long_as_there_are_blocks(self):
        with self.assertRaises(NoBlock):
            self.plank.write(0, [1, 2, 3])
        self.assert_as_it_was()

    def test_block_one_of_one_by_one(self):
        plank = Plank(1, 1)
        for block in (-1, 1):
            with self.assertRaises(NoBlock):
                plank.read(block)
            with self.assertRaises(NoBlock):
                plank.write(block, [1])
        self.assertEqual((plank.read(0), plank.writings()), ([None], 0))

    def test_what_is_refused_leaves_the_list_as_it_was(self):
        values = [1, 2, 3]
        with self.assertRaises(NoBlock):
            self.plank.write(0, values)
        self.assertEqual(values, [1, 2, 3])

    def test_the_plank_goes_on_behind_a_refusal(self):
        with self.assertRaises(NoBlock):
            self.plank.write(3, [1, 2])
        self.plank.write(2, ["x", "y"])
        self.assertEqual(all_of(self.plank), [[0, 0], [1, -1], ["x", "y"]])
        self.assertEqual(self.plank.writings(), 4)


class OwnListsTest(unittest.TestCase):
    """Point 2, of planks."""

    def spoil(self, values):
        values[0] = "spoilt"
        values.append("more")

    def test_the_list_handed_in_stays(self):
        plank = Plank(2, 3)
        values = [1, (2, "b"), None]
        plank.write(0, values)
        self.assertEqual(values, [1, (2, "b"), None])
        plank.write(0, [4, 5, 6])
        plank.read(0)
        self.assertEqual(values, [1, (2, "b"), None])

    def test_changing_the_list_behind_the_call(self):
        plank = Plank(2, 2)
        values = [1, 2]
        plank.write(0, values)
        self.spoil(values)
        self.assertEqual(plank.read(0), [1, 2])
        values.clear()
        self.assertEqual(plank.read(0), [1, 2])

    def test_one_list_for_two_blocks(self):
        plank = Plank(2, 2)
        values = [1, 2]
        plank.write(0, values)
        values[1] = 3
        plank.write(1, values)
        values[1] = 4
        self.assertEqual(all_of(plank), [[1, 2], [1, 3]])

    def test_the_list_told_is_a_new_one_each_time(self):
        plank = Plank(2, 2)
        values = [1, 2]
        plank.write(0, values)
        lists = [values, plank.read(0), plank.read(0), plank.read(1), plank.read(1)]
        self.assertEqual(len({id(told) for told in lists}), 5)

    def test_changing_a_told_list(self):
        plank = Plank(2, 2)
        plank.write(0, [1, 2])
        self.spoil(plank.read(0))
        self.assertEqual(all_of(plank), [[1, 2], [None, None]])
        self.assertEqual(plank.writings(), 1)

    def test_changing_a_told_list_of_a_block_never_written(self):
        plank = Plank(2, 2)
        first, second = plank.read(0), plank.read(0)
        self.spoil(first)
        self.assertEqual(second, [None, None])
        self.assertEqual(all_of(plank), [[None, None], [None, None]])
        self.assertEqual(plank.writings(), 0)

    def test_writing_changes_no_list_told_ahead(self):
        plank = Plank(1, 2)
        empty = plank.read(0)
        plank.write(0, [1, 2])
        told = plank.read(0)
        plank.write(0, [3, 4])
        self.assertEqual((empty, told), ([None, None], [1, 2]))

    def test_a_told_list_written_again(self):
        plank = Plank(2, 2)
        plank.write(0, [1, 2])
        told = plank.read(0)
        plank.write(1, told)
        self.spoil(told)
        self.assertEqual(all_of(plank), [[1, 2], [1, 2]])


if __name__ == "__main__":
    unittest.main()
