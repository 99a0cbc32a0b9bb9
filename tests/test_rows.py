import unittest

from holdback.errors import NoChange
from holdback.holds import Hold
from holdback.planks import Plank
from holdback.rows import row_for
from model import Model, all_of, chance_of, fill, grow

FAR = 10 ** 5000


def small_hold(plank):
    # Block 1 waits on block 0, block 0 on block 1; number 4 is by itself.
    hold = Hold(plank)
    for place, needs in (((0, 0), []), ((1, 0), [0]), ((0, 1), [1]), ((1, 1), [2]), ((2, 0), [])):
        hold.change(place, "v", needs)
    return hold


class RowTest(unittest.TestCase):
    def setUp(self):
        self.plank = Plank(4, 2)
        self.hold = small_hold(self.plank)

    def test_rows(self):
        told = [row_for(self.hold, [number]) for number in range(5)]
        self.assertEqual(told, [[0], [0, 1], [0, 1, 0], [0, 1, 0, 1], [2]])

    def test_of_several(self):
        self.assertEqual(row_for(self.hold, [4, 1]), [0, 1, 2])
        self.assertEqual(row_for(self.hold, [0, 4, 0]), [0, 2])
        self.assertEqual(row_for(self.hold, [3, 4]), [0, 1, 0, 1, 2])

    def test_for_none(self):
        self.assertEqual(row_for(self.hold, []), [])
        self.assertEqual(row_for(Hold(Plank(1, 1)), []), [])

    def test_for_what_is_out(self):
        self.hold.write(0)
        self.hold.write(1)
        self.assertEqual(row_for(self.hold, [0, 1, 0]), [])
        self.assertEqual(row_for(self.hold, [2]), [0])
        self.assertEqual(row_for(self.hold, [3, 0]), [0, 1])

    def test_the_block_of_the_oldest_of_the_closure_is_next(self):
        # Number 0 waits too, but is none of the closure.
        hold = Hold(Plank(3, 2))
        for place, needs in (((2, 0), []), ((1, 0), []), ((0, 0), [1])):
            hold.change(place, "v", needs)
        self.assertEqual(row_for(hold, [2]), [1, 0])

    def test_what_else_would_go_out_counts(self):
        # Number 1 isn't due in the first writing of block 0, so number 2 is held back by it there.
        hold = Hold(Plank(2, 2))
        for place, needs in (((1, 0), []), ((0, 0), [0]), ((0, 0), []), ((1, 1), [2])):
            hold.change(place, "v", needs)
        self.assertEqual(row_for(hold, [3]), [1, 0, 1])
        self.assertEqual(row_for(hold, [2]), [1, 0])

    def test_others_that_go_out_by_the_way_are_taken_as_out(self):
        # By block 0 all of 0, 1, 2 go out; so block 1 is written once alone.
        hold = Hold(Plank(2, 3))
        for place, needs in (((0, 0), []), ((0, 1), []), ((0, 2), [1]), ((1, 0), [0]), ((1, 1), [2, 3])):
            hold.change(place, "v", needs)
        self.assertEqual(row_for(hold, [4]), [0, 1])

    def test_a_number_that_no_change_has(self):
        for bad in (-1, -5, -6, -FAR, 5, 6, FAR):
            for numbers in ([bad], [bad, 0], [0, bad], [0, bad, 4]):
                with self.assertRaises(NoChange):
                    row_for(self.hold, numbers)
        with self.assertRaises(NoChange):
            row_for(Hold(Plank(1, 1)), [0])

    def test_asking_writes_nothing_and_turns_nothing(self):
        fill(self.plank)
        before = (all_of(self.plank), self.plank.writings())
        numbers = [3, 4, 3]
        row_for(self.hold, numbers)
        row_for(self.hold, numbers)
        self.assertEqual(numbers, [3, 4, 3])
        self.assertEqual((all_of(self.plank), self.plank.writings()), before)
        self.assertEqual(self.hold.waiting(), [0, 1, 2, 3, 4])
        self.assertEqual(self.hold.closure([3]), [0, 1, 2, 3])
        self.assertEqual([self.hold.newest((block, 0)) for block in range(4)], [0, 1, 4, None])
        self.assertEqual(self.hold.write(1), ([], [(1, 0), (3, 2)]))

    def test_lists_told_and_handed_in(self):
        numbers = [3]
        told = row_for(self.hold, numbers)
        self.assertIsInstance(told, list)
        numbers.append(4)
        self.assertEqual(told, [0, 1, 0, 1])
        other = row_for(self.hold, [3])
        other.clear()
        self.assertEqual(row_for(self.hold, [3]), [0, 1, 0, 1])
        self.hold.write(0)
        self.hold.write(1)
        self.assertEqual(told, [0, 1, 0, 1])

    def test_the_empty_list_told_is_not_the_one_handed_in(self):
        numbers = []
        row_for(self.hold, numbers).append(1)
        self.assertEqual(numbers, [])


class WrittenInItsTurnTest(unittest.TestCase):
    def assert_row_holds(self, hold, numbers):
        closure = hold.closure(numbers)
        row = row_for(hold, numbers)
        for block in row:
            out = hold.write(block)[0]
            self.assertTrue(set(out) & set(closure))
        self.assertEqual(hold.closure(numbers), [])
        self.assertFalse(set(closure) & set(hold.waiting()))
        self.assertLessEqual(len(row), len(closure))

    def test_rows_from_any_state(self):
        for seed in range(60):
            chance = chance_of(seed)
            plank = Plank(chance.randint(1, 6), chance.randint(1, 4))
            hold, model = Hold(plank), Model(plank)
            grow(chance, plank, [hold, model], range(60))
            for _ in range(chance.randint(0, 5)):
                block = chance.randrange(plank.blocks())
                hold.write(block)
                model.write(block)
            for _ in range(4):
                numbers = chance.choices(range(60), k=chance.randint(0, 4))
                self.assertEqual(row_for(hold, numbers), model.row_for(numbers))
            self.assert_row_holds(hold, numbers)

    def test_a_long_row(self):
        hold = Hold(Plank(40, 40))
        for number in range(500):
            hold.change((number % 40, number // 40), number, [number - 1] if number else [])
        self.assertEqual(row_for(hold, [499]), [number % 40 for number in range(500)])
        self.assert_row_holds(hold, [300])
        self.assertEqual(row_for(hold, [499]), [number % 40 for number in range(301, 500)])

    def test_needs_that_reach_far_back(self):
        hold = Hold(Plank(40, 40))
        for number in range(400):
            needs = list(range(max(0, number - 300), number))
            hold.change((number * 7 % 40, number // 40), number, needs)
        self.assert_row_holds(hold, list(range(399, 100, -1)))


if __name__ == "__main__":
    unittest.main()
