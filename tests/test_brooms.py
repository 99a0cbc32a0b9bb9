import unittest

from holdback.brooms import Broom, Fullest, Round, sweep
from holdback.holds import Hold
from holdback.planks import Plank
from model import Model, all_of, chance_of, fill, grow

BROOMS = (Broom, Fullest, Round)


def hold_with(blocks, cells, changes):
    hold = Hold(Plank(blocks, cells))
    for place, needs in changes:
        hold.change(place, "v", needs)
    return hold


class ChoiceTest(unittest.TestCase):
    def test_kinds(self):
        for kind in (Fullest, Round):
            self.assertTrue(issubclass(kind, Broom))
            self.assertIsInstance(kind(), Broom)
        self.assertFalse(issubclass(Fullest, Round) or issubclass(Round, Fullest))

    def test_a_plain_broom_chooses_the_block_of_the_oldest_that_waits(self):
        hold = hold_with(4, 2, [((2, 0), []), ((0, 0), []), ((3, 1), []), ((0, 1), []), ((0, 0), [])])
        broom = Broom()
        self.assertEqual(broom.chosen(hold), 2)
        self.assertEqual(broom.chosen(hold), 2)
        hold.write(2)
        self.assertEqual(broom.chosen(hold), 0)
        hold.write(0)
        self.assertEqual(broom.chosen(hold), 3)

    def test_a_fullest_chooses_where_most_would_go_out(self):
        hold = hold_with(4, 2, [((2, 0), []), ((3, 0), []), ((3, 1), [])])
        self.assertEqual(Fullest().chosen(hold), 3)
        hold.write(3)
        self.assertEqual(Fullest().chosen(hold), 2)

    def test_a_fullest_counts_what_goes_out_not_what_waits(self):
        # Of block 1 three wait, of which none is due; of block 2 one waits and is due.
        hold = hold_with(3, 3, [((2, 0), []), ((1, 0), [0]), ((1, 1), [0]), ((1, 2), [0])])
        self.assertEqual(Fullest().chosen(hold), 2)
        hold.write(2)
        self.assertEqual(Fullest().chosen(hold), 1)

    def test_a_fullest_counts_several_at_one_place_and_what_is_due_by_the_same_writing(self):
        hold = hold_with(3, 2, [((0, 0), []), ((0, 1), []), ((1, 0), []), ((1, 0), [2]), ((1, 0), [3])])
        self.assertEqual(Fullest().chosen(hold), 1)

    def test_a_fullest_does_not_count_what_is_out(self):
        hold = hold_with(2, 2, [((0, 0), []), ((0, 1), []), ((1, 0), [])])
        hold.write(0)
        self.assertEqual(Fullest().chosen(hold), 1)

    def test_of_several_a_fullest_chooses_the_lowest(self):
        hold = hold_with(5, 2, [((4, 0), []), ((3, 0), []), ((3, 1), []), ((2, 0), []), ((1, 1), []), ((1, 0), [])])
        self.assertEqual(Fullest().chosen(hold), 1)
        hold.write(1)
        hold.write(3)
        self.assertEqual(Fullest().chosen(hold), 2)
        hold.write(2)
        self.assertEqual(Fullest().chosen(hold), 4)

    def test_a_round_counts_its_choices(self):
        hold = hold_with(3, 1, [((2, 0), [])])
        broom = Round()
        self.assertEqual([broom.chosen(hold) for _ in range(8)], [0, 1, 2, 0, 1, 2, 0, 1])
        self.assertEqual(Round().chosen(hold), 0)

    def test_a_round_over_holds_with_unlike_numbers_of_blocks(self):
        three, five, one = [hold_with(blocks, 1, [((0, 0), [])]) for blocks in (3, 5, 1)]
        broom = Round()
        told = [broom.chosen(hold) for hold in (three, five, five, three, five, one, five, three, five)]
        self.assertEqual(told, [0, 1, 2, 0, 4, 0, 1, 1, 3])

    def test_rounds_count_each_for_itself(self):
        hold = hold_with(3, 1, [((2, 0), [])])
        one, other = Round(), Round()
        self.assertEqual([one.chosen(hold), one.chosen(hold), other.chosen(hold), one.chosen(hold)], [0, 1, 0, 2])

    def test_choosing_writes_nothing(self):
        for kind in BROOMS:
            plank = Plank(3, 2)
            fill(plank)
            hold = Hold(plank)
            hold.change((1, 0), "a", [])
            hold.change((0, 0), "b", [0])
            before = (all_of(plank), plank.writings())
            kind().chosen(hold)
            self.assertEqual((all_of(plank), plank.writings()), before)
            self.assertEqual(hold.waiting(), [0, 1])
            self.assertEqual(hold.write(0), ([], [(1, 0)]))

    def test_choices_as_the_model_tells(self):
        for seed in range(20):
            chance = chance_of(seed)
            plank = Plank(chance.randint(1, 6), chance.randint(1, 4))
            hold, model = Hold(plank), Model(plank)
            grow(chance, plank, [hold, model], range(40))
            turning, turn = Round(), 0
            while hold.waiting():
                self.assertEqual(Broom().chosen(hold), model.changes[hold.waiting()[0]][0][0])
                self.assertEqual(Fullest().chosen(hold), model.fullest())
                self.assertEqual(turning.chosen(hold), turn % plank.blocks())
                turn += 1
                block = chance.randrange(plank.blocks())
                hold.write(block)
                model.write(block)


class SweepTest(unittest.TestCase):
    def crossed(self):
        return hold_with(3, 2, [((2, 0), []), ((0, 0), [0]), ((2, 1), [1]), ((0, 1), [2])])

    def test_told_are_the_blocks_written(self):
        for kind, row in ((Broom, [2, 0, 2, 0]), (Fullest, [2, 0, 2, 0]), (Round, [0, 1, 2, 0, 1, 2, 0])):
            hold = self.crossed()
            self.assertEqual(sweep(hold, kind()), row)
            self.assertEqual(hold.waiting(), [])

    def test_a_fullest_and_a_plain_broom_go_their_own_ways(self):
        changes = [((2, 0), []), ((1, 0), []), ((1, 1), []), ((0, 0), [])]
        self.assertEqual(sweep(hold_with(3, 2, changes), Broom()), [2, 1, 0])
        self.assertEqual(sweep(hold_with(3, 2, changes), Fullest()), [1, 0, 2])
        self.assertEqual(sweep(hold_with(3, 2, changes), Round()), [0, 1, 2])

    def test_each_is_written_once_and_counted(self):
        for kind in BROOMS:
            plank = Plank(3, 2)
            fill(plank)
            hold = Hold(plank)
            hold.change((2, 0), "a", [])
            hold.change((0, 1), "b", [0])
            row = sweep(hold, kind())
            self.assertEqual(plank.writings(), 3 + len(row))
            self.assertEqual(
                all_of(plank), [["first 0 0", "b"], ["first 1 0", "first 1 1"], ["a", "first 2 1"]]
            )

    def test_nothing_waits(self):
        for kind in BROOMS:
            plank = Plank(3, 2)
            hold = Hold(plank)
            self.assertEqual(sweep(hold, kind()), [])
            hold.change((1, 1), "a", [])
            hold.write(1)
            self.assertEqual(sweep(hold, kind()), [])
            self.assertEqual(plank.writings(), 1)

    def test_a_round_goes_on_where_it_was(self):
        broom = Round()
        self.assertEqual(sweep(hold_with(4, 1, [((1, 0), [])]), broom), [0, 1])
        self.assertEqual(sweep(hold_with(4, 1, [((1, 0), [])]), broom), [2, 3, 0, 1])
        # Six choices were made: 6 % 5 is 1.
        self.assertEqual(sweep(hold_with(5, 1, [((2, 0), [])]), broom), [1, 2])
        self.assertEqual(sweep(hold_with(5, 1, []), broom), [])
        self.assertEqual(broom.chosen(hold_with(3, 1, [((0, 0), [])])), 2)

    def test_lists_told_are_new_ones_and_stay(self):
        for kind in BROOMS:
            hold, broom = self.crossed(), kind()
            first = sweep(hold, broom)
            self.assertIsInstance(first, list)
            kept = list(first)
            hold.change((1, 0), "v", [])
            second = sweep(hold, broom)
            self.assertEqual(first, kept)
            second.clear()
            self.assertEqual(first, kept)
            sweep(hold, broom).append(1)
            self.assertEqual(sweep(hold, broom), [])

    def test_comes_to_its_end_from_any_state(self):
        for kind in BROOMS:
            for seed in range(15):
                chance = chance_of(seed)
                plank = Plank(chance.randint(1, 6), chance.randint(1, 4))
                hold = Hold(plank)
                grow(chance, plank, [hold], range(60))
                hold.write(0)
                sweep(hold, kind())
                self.assertEqual(hold.waiting(), [])
                hand = [[hold.in_hand((b, c)) for c in range(plank.cells())] for b in range(plank.blocks())]
                self.assertEqual(all_of(plank), hand)

    def test_a_long_row_of_needs(self):
        for kind in BROOMS:
            hold = Hold(Plank(40, 40))
            # Downwards through the blocks, so that each time round a Round puts out one or two alone.
            blocks = [(399 - number) % 40 for number in range(400)]
            for number, block in enumerate(blocks):
                hold.change((block, number // 40), number, [number - 1] if number else [])
            row = sweep(hold, kind())
            self.assertEqual(hold.waiting(), [])
            if kind is Round:
                self.assertEqual(row, [turn % 40 for turn in range(len(row))])
                self.assertEqual(row[-1], blocks[-1])
            else:
                self.assertEqual(row, blocks)

    def test_needs_that_reach_far_back(self):
        for kind in BROOMS:
            hold = Hold(Plank(40, 40))
            for number in range(300):
                hold.change((number // 10, number % 10), number, list(range(number)))
            self.assertEqual(sweep(hold, kind()), list(range(30)))
            self.assertEqual(hold.waiting(), [])


if __name__ == "__main__":
    unittest.main()
