import unittest

from holdback.changes import Book
from holdback.errors import NoBlock
from holdback.holds import Hold
from holdback.planks import Plank
from model import Model, all_of, chance_of, fill, grow

FAR = 10 ** 5000


def hold_with(plank, changes):
    hold = Hold(plank)
    for place, value, needs in changes:
        hold.change(place, value, needs)
    return hold


class WriteTest(unittest.TestCase):
    def test_a_hold_is_a_book(self):
        self.assertTrue(issubclass(Hold, Book))
        self.assertIsInstance(Hold(Plank(1, 1)), Book)

    def test_what_needs_nothing_goes_out(self):
        plank = Plank(2, 2)
        hold = hold_with(plank, [((0, 1), "a", []), ((1, 0), "b", []), ((0, 0), "c", [])])
        self.assertEqual(hold.write(0), ([0, 2], []))
        self.assertEqual(all_of(plank), [["c", "a"], [None, None]])
        self.assertEqual(hold.waiting(), [1])
        self.assertEqual(hold.write(1), ([1], []))
        self.assertEqual(all_of(plank), [["c", "a"], ["b", None]])
        self.assertEqual(hold.waiting(), [])

    def test_told_as_a_tuple_of_two_lists(self):
        hold = hold_with(Plank(2, 1), [((0, 0), "a", []), ((1, 0), "b", [0])])
        told = hold.write(1)
        self.assertIsInstance(told, tuple)
        self.assertEqual([part.__class__ for part in told], [list, list])
        self.assertIsInstance(told[1][0], tuple)
        self.assertEqual(told, ([], [(1, 0)]))

    def test_what_is_not_due_is_held_back(self):
        plank = Plank(2, 2)
        hold = hold_with(plank, [((0, 0), "a", []), ((1, 0), "b", [0]), ((1, 1), "c", [])])
        self.assertEqual(hold.write(1), ([2], [(1, 0)]))
        self.assertEqual(all_of(plank), [[None, None], [None, "c"]])
        self.assertEqual(hold.in_hand((1, 0)), "b")
        self.assertEqual(hold.write(0), ([0], []))
        self.assertEqual(hold.write(1), ([1], []))
        self.assertEqual(all_of(plank), [["a", None], ["b", "c"]])

    def test_what_goes_out_now_counts_for_later_ones(self):
        plank = Plank(2, 3)
        hold = hold_with(plank, [((0, 0), "a", []), ((0, 1), "b", [0]), ((0, 2), "c", [1, 0])])
        self.assertEqual(hold.write(0), ([0, 1, 2], []))
        self.assertEqual(plank.read(0), ["a", "b", "c"])

    def test_what_is_held_back_holds_back_later_ones(self):
        plank = Plank(2, 3)
        hold = hold_with(plank, [((1, 0), "x", []), ((0, 0), "a", [0]), ((0, 1), "b", [1]), ((0, 2), "c", [2, 1])])
        self.assertEqual(hold.write(0), ([], [(1, 0), (2, 1), (3, 1)]))
        self.assertEqual(plank.read(0), [None, None, None])
        hold.write(1)
        self.assertEqual(hold.write(0), ([1, 2, 3], []))

    def test_lack_is_the_lowest_need_that_is_not_out(self):
        changes = [((1, 0), 0, []), ((2, 0), 1, []), ((1, 1), 2, []), ((0, 1), 3, [])]
        for needs, first, second in (
            ([3, 2, 1, 0], ([3], [(4, 0)]), ([], [(4, 1)])),
            ([2, 1, 2, 1], ([3], [(4, 1)]), ([], [(4, 1)])),
            ([2, 3], ([3], [(4, 2)]), ([4], [])),
            ([3, 0], ([3], [(4, 0)]), ([4], [])),
        ):
            hold = hold_with(Plank(3, 2), changes + [((0, 0), 4, needs)])
            self.assertEqual(hold.write(0), first)
            self.assertEqual(hold.write(1), ([0, 2], []))
            self.assertEqual(hold.write(0), second)

    def test_lack_is_told_of_what_it_needs_itself(self):
        # Number 2 needs 1 alone; that 1 lacks 0 is told of 1.
        hold = hold_with(Plank(3, 1), [((0, 0), 0, []), ((1, 0), 1, [0]), ((2, 0), 2, [1])])
        self.assertEqual(hold.write(2), ([], [(2, 1)]))
        self.assertEqual(hold.write(1), ([], [(1, 0)]))

    def test_the_one_ahead_at_its_place_may_be_the_lack(self):
        changes = [((1, 0), "x", []), ((0, 0), "a", [0]), ((0, 0), "b", []), ((0, 0), "c", [])]
        plank = Plank(2, 1)
        hold = hold_with(plank, changes)
        self.assertEqual(hold.write(0), ([], [(1, 0), (2, 1), (3, 2)]))
        self.assertEqual(plank.read(0), [None])
        hold.write(1)
        self.assertEqual(hold.write(0), ([1, 2, 3], []))
        self.assertEqual(plank.read(0), ["c"])

    def test_a_cell_with_several_changes_shows_the_last_that_is_out(self):
        plank = Plank(2, 1)
        hold = hold_with(plank, [((0, 0), "a", []), ((0, 0), "b", []), ((1, 0), "x", []), ((0, 0), "c", [2])])
        self.assertEqual(hold.write(0), ([0, 1], [(3, 2)]))
        self.assertEqual(plank.read(0), ["b"])
        self.assertEqual(hold.in_hand((0, 0)), "c")
        self.assertEqual(hold.newest((0, 0)), 3)
        self.assertEqual(hold.write(0), ([], [(3, 2)]))
        self.assertEqual(plank.read(0), ["b"])

    def test_none_is_written_like_any_value(self):
        plank = Plank(1, 2)
        fill(plank)
        hold = hold_with(plank, [((0, 0), None, []), ((0, 1), "b", []), ((0, 1), None, [])])
        self.assertEqual(hold.write(0), ([0, 1, 2], []))
        self.assertEqual(plank.read(0), [None, None])

    def test_cells_without_a_change_stay_and_other_blocks_too(self):
        plank = Plank(3, 3)
        fill(plank)
        before = all_of(plank)
        hold = hold_with(plank, [((1, 1), "mine", []), ((2, 0), "wait", [])])
        hold.write(1)
        self.assertEqual(all_of(plank), [before[0], ["first 1 0", "mine", "first 1 2"], before[2]])

    def test_a_cell_whose_changes_are_held_back_stays(self):
        plank = Plank(2, 2)
        fill(plank)
        hold = hold_with(plank, [((1, 0), "x", []), ((0, 0), "a", [0]), ((0, 1), "b", [])])
        self.assertEqual(hold.write(0), ([2], [(1, 0)]))
        self.assertEqual(plank.read(0), ["first 0 0", "b"])

    def test_a_writing_by_which_nothing_goes_out_is_one_all_the_same(self):
        plank = Plank(3, 1)
        fill(plank)
        before = all_of(plank)
        hold = hold_with(plank, [((0, 0), "a", []), ((1, 0), "b", [0])])
        self.assertEqual(hold.write(1), ([], [(1, 0)]))
        self.assertEqual(hold.write(2), ([], []))
        self.assertEqual(plank.writings(), 5)
        self.assertEqual(all_of(plank), before)
        self.assertEqual(hold.waiting(), [0, 1])

    def test_each_writing_is_counted_once(self):
        plank = Plank(2, 2)
        hold = hold_with(plank, [((0, 0), "a", []), ((0, 1), "b", []), ((0, 1), "c", [])])
        for count in range(1, 4):
            hold.write(0)
            self.assertEqual(plank.writings(), count)

    def test_a_second_writing_of_the_same_block(self):
        plank = Plank(2, 2)
        hold = hold_with(plank, [((0, 0), "a", []), ((0, 1), "b", [])])
        hold.write(0)
        self.assertEqual(hold.write(0), ([], []))
        self.assertEqual(plank.read(0), ["a", "b"])
        self.assertEqual(hold.change((0, 0), "c", [1]), 2)
        self.assertEqual(hold.write(0), ([2], []))
        self.assertEqual(plank.read(0), ["c", "b"])
        self.assertEqual(hold.write(0), ([], []))
        self.assertEqual(plank.read(0), ["c", "b"])

    def test_needs_that_are_out_hold_nothing_back(self):
        hold = hold_with(Plank(2, 1), [((0, 0), "a", [])])
        hold.write(0)
        hold.change((1, 0), "b", [0, 0])
        self.assertEqual(hold.write(1), ([1], []))

    def test_a_hold_without_changes(self):
        plank = Plank(2, 2)
        fill(plank)
        before = all_of(plank)
        self.assertEqual(Hold(plank).write(1), ([], []))
        self.assertEqual(all_of(plank), before)
        self.assertEqual(plank.writings(), 3)

    def test_a_new_hold_over_a_plank_that_another_wrote(self):
        plank = Plank(1, 2)
        hold_with(plank, [((0, 0), "a", []), ((0, 1), "b", [])]).write(0)
        hold = Hold(plank)
        self.assertEqual((hold.in_hand((0, 0)), hold.newest((0, 0))), ("a", None))
        self.assertEqual(hold.change((0, 0), "c", []), 0)
        self.assertEqual(hold.write(0), ([0], []))
        self.assertEqual(plank.read(0), ["c", "b"])

    def test_blocks_that_wait_on_each_other(self):
        plank = Plank(2, 2)
        hold = hold_with(plank, [((0, 0), 0, []), ((1, 0), 1, [0]), ((0, 1), 2, [1]), ((1, 1), 3, [2])])
        told = [hold.write(block) for block in (1, 0, 0, 1, 1, 0, 1)]
        self.assertEqual(told, [
            ([], [(1, 0), (3, 2)]), ([0], [(2, 1)]), ([], [(2, 1)]), ([1], [(3, 2)]), ([], [(3, 2)]),
            ([2], []), ([3], []),
        ])


class RefusalTest(unittest.TestCase):
    def test_no_block(self):
        plank = Plank(3, 2)
        fill(plank)
        for bad in (-1, -3, -4, -FAR, 3, 4, FAR):
            hold = hold_with(plank, [((2, 0), "a", []), ((0, 0), "b", [0])])
            before = (all_of(plank), plank.writings())
            with self.assertRaises(NoBlock):
                hold.write(bad)
            self.assertEqual((all_of(plank), plank.writings()), before)
            self.assertEqual(hold.waiting(), [0, 1])
            self.assertEqual((hold.in_hand((2, 0)), hold.newest((0, 0))), ("a", 1))
            self.assertEqual(hold.change((1, 1), "c", []), 2)

    def test_no_block_where_cells_are_more_than_blocks(self):
        hold = Hold(Plank(2, 5))
        for bad in (2, 4):
            with self.assertRaises(NoBlock):
                hold.write(bad)


class ListsTest(unittest.TestCase):
    def test_what_is_told_is_new_each_time(self):
        plank = Plank(2, 2)
        hold = hold_with(plank, [((0, 0), "a", []), ((1, 0), "b", []), ((0, 1), "c", [1]), ((0, 1), "d", [])])
        out, held = hold.write(0)
        self.assertEqual((out, held), ([0], [(2, 1), (3, 2)]))
        out.append(1)
        held.clear()
        self.assertEqual(hold.waiting(), [1, 2, 3])
        self.assertEqual(hold.write(0), ([], [(2, 1), (3, 2)]))

    def test_what_was_told_stays(self):
        hold = hold_with(Plank(2, 2), [((0, 0), "a", []), ((1, 0), "b", []), ((0, 1), "c", [1])])
        first = hold.write(0)
        second = hold.write(0)
        hold.write(1)
        hold.write(0)
        hold.change((0, 0), "e", [])
        self.assertEqual((first, second), (([0], [(2, 1)]), ([], [(2, 1)])))

    def test_the_two_lists_are_not_one(self):
        out, held = Hold(Plank(1, 1)).write(0)
        out.append("mine")
        self.assertEqual(held, [])

    def test_lists_read_from_the_plank_stay(self):
        plank = Plank(1, 2)
        hold = hold_with(plank, [((0, 0), "a", [])])
        read = plank.read(0)
        hold.write(0)
        self.assertEqual(read, [None, None])
        plank.read(0).clear()
        self.assertEqual(plank.read(0), ["a", None])


class LongRowTest(unittest.TestCase):
    """Long rows of changes and writings, compared with the model behind each step."""

    def assert_alike(self, hold, model, plank):
        self.assertEqual(hold.waiting(), model.waiting())
        # What is out is a cut.
        for number in model.out:
            self.assertLessEqual(set(hold.needed(number)), model.out)
        self.assertEqual(repr(all_of(plank)), repr(model.on_plank()))
        for place in model.at_first:
            self.assertEqual(hold.newest(place), model.newest(place))
            self.assertEqual(repr(hold.in_hand(place)), repr(model.value_at(place)))

    def write_both(self, hold, model, block):
        oldest, before = model.waiting()[:1], set(model.out)
        held = model.write(block)
        told = hold.write(block)
        self.assertEqual(told, (sorted(model.out - before), held))
        if oldest and model.changes[oldest[0]][0][0] == block:
            self.assertIn(oldest[0], told[0])

    def test_each_step(self):
        for seed in range(25):
            chance = chance_of(seed)
            plank = Plank(chance.randint(1, 5), chance.randint(1, 4))
            fill(plank)
            hold, model = Hold(plank), Model(plank)
            writings = plank.writings()
            for _ in range(120):
                if chance.random() < 0.6:
                    many = len(model.changes)
                    grow(chance, plank, [hold, model], range(many, many + 1))
                else:
                    self.write_both(hold, model, chance.randrange(plank.blocks()))
                    writings += 1
                self.assertEqual(plank.writings(), writings)
                self.assert_alike(hold, model, plank)

    def test_all_gets_out_by_the_oldest_ones(self):
        for seed in range(10):
            chance = chance_of(seed)
            plank = Plank(6, 4)
            hold, model = Hold(plank), Model(plank)
            grow(chance, plank, [hold, model], range(100))
            while hold.waiting():
                oldest = hold.waiting()[0]
                # Others may be written between: the oldest one goes out all the same.
                self.write_both(hold, model, chance.randrange(6))
                if oldest in hold.waiting():
                    self.assertIn(oldest, hold.write(model.changes[oldest][0][0])[0])
                    model.write(model.changes[oldest][0][0])
            self.assert_alike(hold, model, plank)
            self.assertEqual(all_of(plank), [[hold.in_hand((b, c)) for c in range(4)] for b in range(6)])

    def test_all_gets_out_by_writing_round(self):
        plank = Plank(7, 3)
        hold, model = Hold(plank), Model(plank)
        grow(chance_of(99), plank, [hold, model], range(200))
        rounds = 0
        while hold.waiting():
            for block in reversed(range(7)):
                hold.write(block)
            rounds += 1
            self.assertLessEqual(rounds, 200)
        model.out = set(range(200))
        self.assert_alike(hold, model, plank)


class SizeTest(unittest.TestCase):
    def test_a_long_row_each_needing_the_one_ahead(self):
        plank = Plank(40, 40)
        hold = Hold(plank)
        for number in range(800):
            hold.change((number % 40, number // 40), number, [number - 1] if number else [])
        self.assertEqual(hold.write(39), ([], [(number, number - 1) for number in range(39, 800, 40)]))
        for number in range(800):
            self.assertEqual(hold.write(number % 40)[0], [number])
        self.assertEqual(hold.waiting(), [])
        self.assertEqual(plank.read(39), list(range(39, 800, 40)) + [None] * 20)

    def test_a_long_row_in_one_block(self):
        plank = Plank(40, 40)
        hold = Hold(plank)
        for number in range(1200):
            hold.change((7, number % 40), number, [number - 1] if number else [])
        self.assertEqual(hold.write(7), (list(range(1200)), []))
        self.assertEqual(plank.read(7), list(range(1160, 1200)))

    def test_needs_that_reach_far_back(self):
        plank = Plank(40, 40)
        hold = Hold(plank)
        for number in range(400):
            hold.change((number // 10, number % 10), number, list(range(max(0, number - 300), number)))
        self.assertEqual(hold.write(39), ([], [(number, number - 300) for number in range(390, 400)]))
        for block in range(39):
            self.assertEqual(hold.write(block)[0], list(range(10 * block, 10 * block + 10)))
        self.assertEqual(hold.waiting(), list(range(390, 400)))
        self.assertEqual(hold.closure([399]), list(range(390, 400)))


if __name__ == "__main__":
    unittest.main()
