import unittest

from holdback.changes import Book
from holdback.errors import NoBlock, NoChange
from holdback.holds import Hold
from holdback.planks import Plank
from model import Model, all_of, chance_of, fill, grow

VALUES = (None, 0, 1, -1, 10 ** 30, -10 ** 30, "", "a text", "x" * 60, (), (1, 2), (1, ("a", (None,))), (None,) * 300)
FAR = 10 ** 5000


def places_off(blocks, cells):
    """Places that aren't on a plank: by the block, by the cell, by both; below, just beyond, far beyond."""
    bad_blocks = (-1, -blocks, -blocks - 1, -FAR, blocks, blocks + 1, FAR)
    bad_cells = (-1, -cells, -cells - 1, -FAR, cells, cells + 1, FAR)
    by_block = [(block, cell) for block in bad_blocks for cell in (0, cells - 1)]
    by_cell = [(block, cell) for cell in bad_cells for block in (0, blocks - 1)]
    return by_block + by_cell + [(-1, -1), (blocks, cells), (-FAR, FAR)]


def state(book, plank):
    """All that a book tells, to see that nothing was changed."""
    places = [(block, cell) for block in range(plank.blocks()) for cell in range(plank.cells())]
    return (
        [book.in_hand(place) for place in places],
        [book.newest(place) for place in places],
        book.waiting(),
        [book.needed(number) for number in book.waiting()],
        all_of(plank),
        plank.writings(),
    )


class ForBooks:
    """What stands here holds of a Book and of a Hold alike."""

    kind = None

    def book(self, blocks=3, cells=2):
        self.plank = Plank(blocks, cells)
        return self.kind(self.plank)


class NumberTests(ForBooks):
    def test_numbers_rise_from_nought(self):
        book = self.book()
        places = ((0, 0), (2, 1), (0, 0), (1, 1), (0, 0))
        self.assertEqual([book.change(place, "v", []) for place in places], [0, 1, 2, 3, 4])

    def test_some_hundreds(self):
        book = self.book(40, 40)
        told = [book.change((number % 40, number // 40 % 40), number, []) for number in range(700)]
        self.assertEqual(told, list(range(700)))
        self.assertEqual(book.waiting(), told)

    def test_two_books_count_each_for_itself(self):
        plank = Plank(2, 2)
        one, other = self.kind(plank), self.kind(plank)
        self.assertEqual([one.change((0, 0), "a", []), one.change((0, 0), "b", [])], [0, 1])
        self.assertEqual(other.change((0, 1), "c", []), 0)
        self.assertEqual((one.in_hand((0, 1)), other.in_hand((0, 0))), (None, None))

    def test_making_changes_writes_nothing(self):
        book = self.book()
        for number in range(5):
            book.change((number % 3, 0), number, list(range(number)))
        self.assertEqual(all_of(self.plank), [[None, None]] * 3)
        self.assertEqual(self.plank.writings(), 0)

    def test_all_wait_at_first(self):
        book = self.book()
        self.assertEqual(book.waiting(), [])
        for number in range(4):
            book.change((0, 0), None, [])
            self.assertEqual(book.waiting(), list(range(number + 1)))


class HandTests(ForBooks):
    def test_values_of_every_kind(self):
        for value in VALUES:
            book = self.book()
            book.change((1, 1), value, [])
            self.assertEqual(repr(book.in_hand((1, 1))), repr(value))
            self.assertEqual(book.newest((1, 1)), 0)

    def test_the_newest_at_a_place_stands_in_hand(self):
        book = self.book()
        for value in VALUES:
            number = book.change((1, 0), value, [])
            book.change((0, 1), "elsewhere", [])
            self.assertEqual(repr(book.in_hand((1, 0))), repr(value))
            self.assertEqual(book.newest((1, 0)), number)

    def test_none_is_a_value_over_what_the_plank_has(self):
        book = self.book()
        fill(self.plank)
        book.change((1, 0), None, [])
        self.assertIsNone(book.in_hand((1, 0)))
        self.assertEqual(book.newest((1, 0)), 0)

    def test_without_a_change_it_is_what_the_plank_has(self):
        book = self.book()
        self.assertIsNone(book.in_hand((2, 1)))
        self.assertIsNone(book.newest((2, 1)))

    def test_over_a_plank_that_was_written(self):
        plank = Plank(3, 2)
        fill(plank)
        book = self.kind(plank)
        book.change((0, 1), "mine", [])
        hand = [[book.in_hand((block, cell)) for cell in range(2)] for block in range(3)]
        self.assertEqual(hand, [["first 0 0", "mine"], ["first 1 0", "first 1 1"], ["first 2 0", "first 2 1"]])

    def test_places_that_look_alike_are_kept_apart(self):
        book = self.book(3, 3)
        book.change((1, 2), "a", [])
        book.change((2, 1), "b", [])
        self.assertEqual((book.in_hand((1, 2)), book.in_hand((2, 1))), ("a", "b"))
        self.assertEqual((book.newest((1, 2)), book.newest((2, 1))), (0, 1))
        self.assertEqual((book.needed(0), book.needed(1)), ([], []))

    def test_corners_of_the_largest_plank(self):
        book = self.book(40, 40)
        for number, place in enumerate(((0, 0), (0, 39), (39, 0), (39, 39))):
            self.assertIsNone(book.newest(place))
            self.assertEqual(book.change(place, number, []), number)
            self.assertEqual((book.in_hand(place), book.newest(place)), (number, number))


class NeedTests(ForBooks):
    def grown(self):
        book = self.book()
        for number, place in enumerate(((0, 0), (0, 1), (1, 0), (1, 1))):
            book.change(place, number, [])
        return book

    def test_none(self):
        self.assertEqual(self.grown().needed(3), [])

    def test_in_any_order_and_twice(self):
        for needs in ([0, 1, 3], [3, 1, 0], [1, 3, 0, 1, 1], [3, 3, 0, 0, 1]):
            book = self.grown()
            number = book.change((2, 0), "v", needs)
            self.assertEqual(book.needed(number), [0, 1, 3])

    def test_the_one_just_ahead_at_its_place_is_among_them(self):
        book = self.grown()
        self.assertEqual(book.needed(book.change((1, 0), "v", [])), [2])
        self.assertEqual(book.needed(book.change((1, 0), "v", [3, 0])), [0, 3, 4])
        self.assertEqual(book.needed(book.change((1, 0), "v", [5, 5, 2])), [2, 5])
        self.assertEqual(book.needed(book.change((0, 1), "v", [6])), [1, 6])

    def test_only_the_one_just_ahead(self):
        book = self.book(1, 2)
        for number in range(6):
            book.change((0, number % 2), number, [])
        self.assertEqual([book.needed(number) for number in range(6)], [[], [], [0], [1], [2], [3]])

    def test_what_is_needed_by_needs_is_not_told(self):
        book = self.book()
        for number in range(4):
            book.change((number % 3, number // 3), number, [number - 1] if number else [])
        self.assertEqual([book.needed(number) for number in range(4)], [[], [0], [1], [2]])

    def test_needs_that_reach_far_back(self):
        book = self.book(40, 40)
        for number in range(400):
            book.change((number % 40, number // 40), number, list(range(max(0, number - 300), number)))
        self.assertEqual(book.needed(399), list(range(99, 399)))
        self.assertEqual(book.needed(book.change((0, 0), "v", [399])), [0, 399])

    def test_a_list_handed_in_stays_and_may_be_changed(self):
        book = self.grown()
        needs = [3, 0, 3]
        book.change((1, 0), "v", needs)
        self.assertEqual(needs, [3, 0, 3])
        needs.append(1)
        needs[0] = 1
        self.assertEqual(book.needed(4), [0, 2, 3])
        needs.clear()
        self.assertEqual(book.needed(4), [0, 2, 3])
        self.assertEqual(book.closure([4]), [0, 2, 3, 4])

    def test_lists_told_are_new_ones(self):
        book = self.grown()
        number = book.change((1, 0), "v", [0, 1])
        needed, waiting = book.needed(number), book.waiting()
        self.assertIsInstance(needed, list)
        self.assertIsInstance(waiting, list)
        needed.clear()
        waiting.clear()
        self.assertEqual(book.needed(number), [0, 1, 2])
        self.assertEqual(book.waiting(), [0, 1, 2, 3, 4])
        needed, waiting = book.needed(number), book.waiting()
        book.change((1, 0), "v", [number])
        self.assertEqual((needed, waiting), ([0, 1, 2], [0, 1, 2, 3, 4]))

    def test_of_a_number_that_none_has(self):
        book = self.grown()
        for number in (-1, -4, -5, -FAR, 4, 5, FAR):
            with self.assertRaises(NoChange):
                book.needed(number)
        with self.assertRaises(NoChange):
            self.book().needed(0)


class RefusalTests(ForBooks):
    def grown(self):
        book = self.book()
        fill(self.plank)
        book.change((0, 0), "a", [])
        book.change((2, 1), "b", [0])
        return book

    def test_places_that_are_not_on_the_plank(self):
        for blocks, cells in ((3, 2), (2, 3), (1, 1), (40, 40)):
            for place in places_off(blocks, cells):
                book = self.book(blocks, cells)
                with self.assertRaises(NoBlock):
                    book.change(place, "v", [])
                with self.assertRaises(NoBlock):
                    book.in_hand(place)
                with self.assertRaises(NoBlock):
                    book.newest(place)
                self.assertEqual(book.waiting(), [])

    def test_needs_that_are_none_of_an_earlier_change(self):
        for bad in (-1, -2, -3, -FAR, 2, 3, FAR):
            for needs in ([bad], [0, bad], [bad, 0], [0, 1, bad, 1, 0], [bad, bad]):
                book = self.grown()
                before = state(book, self.plank)
                with self.assertRaises(NoChange):
                    book.change((1, 1), "v", needs)
                self.assertEqual(state(book, self.plank), before)

    def test_the_first_change_has_none_to_need(self):
        for bad in (-1, 0, 1):
            book = self.book()
            with self.assertRaises(NoChange):
                book.change((0, 0), "v", [bad])
            self.assertEqual(book.waiting(), [])
            self.assertEqual(book.change((0, 0), "v", []), 0)

    def test_the_place_is_asked_ahead_of_the_needs(self):
        for place in places_off(3, 2):
            for bad in (-1, 2, 3, FAR):
                with self.assertRaises(NoBlock):
                    self.grown().change(place, "v", [bad])

    def test_what_is_refused_takes_no_number_and_changes_nothing(self):
        book = self.grown()
        before = state(book, self.plank)
        for place, needs, refusal in (((3, 0), [], NoBlock), ((0, 2), [5], NoBlock), ((0, 0), [2], NoChange)):
            handed = list(needs)
            with self.assertRaises(refusal):
                book.change(place, "refused", handed)
            self.assertEqual(handed, needs)
            self.assertEqual(state(book, self.plank), before)
        self.assertEqual(book.change((0, 0), "c", [1]), 2)
        self.assertEqual(book.needed(2), [0, 1])

    def test_asking_changes_nothing(self):
        book = self.grown()
        before = state(book, self.plank)
        book.closure([1, 0])
        self.assertEqual(state(book, self.plank), before)


class ClosureTests(ForBooks):
    def grown(self):
        # 4 needs 3 and 1, 3 needs 0, 2 is by itself, 5 is just ahead of 6 at its place.
        book = self.book(4, 2)
        for place, needs in (
            ((0, 0), []), ((0, 1), []), ((1, 0), []), ((1, 1), [0]), ((2, 0), [3, 1]), ((2, 1), []), ((2, 1), []),
        ):
            book.change(place, "v", needs)
        return book

    def test_of_none(self):
        self.assertEqual(self.grown().closure([]), [])
        self.assertEqual(self.book().closure([]), [])

    def test_needs_of_needs(self):
        book = self.grown()
        told = [book.closure([number]) for number in range(7)]
        self.assertEqual(told, [[0], [1], [2], [0, 3], [0, 1, 3, 4], [5], [5, 6]])

    def test_of_several(self):
        book = self.grown()
        self.assertEqual(book.closure([3, 6]), [0, 3, 5, 6])
        self.assertEqual(book.closure([2, 4]), [0, 1, 2, 3, 4])
        self.assertEqual(book.closure([0, 1, 2, 3, 4, 5, 6]), list(range(7)))

    def test_in_any_order_and_twice(self):
        book = self.grown()
        for numbers in ([6, 3], [3, 6], [6, 6, 3, 3, 6], [0, 3, 5, 6, 0], [6, 5, 3, 0]):
            self.assertEqual(book.closure(numbers), [0, 3, 5, 6])

    def test_numbers_that_no_change_has(self):
        for bad in (-1, -7, -8, -FAR, 7, 8, FAR):
            for numbers in ([bad], [bad, 0], [0, bad], [4, bad, 4], [6, 5, 4, 3, 2, 1, 0, bad], [bad, bad]):
                with self.assertRaises(NoChange):
                    self.grown().closure(numbers)
        for bad in (-1, 0):
            with self.assertRaises(NoChange):
                self.book().closure([bad])

    def test_lists_handed_in_and_told(self):
        book = self.grown()
        numbers = [4, 6, 4]
        told = book.closure(numbers)
        self.assertEqual(numbers, [4, 6, 4])
        self.assertIsInstance(told, list)
        told.clear()
        numbers.clear()
        again = book.closure([4, 6])
        self.assertEqual(again, [0, 1, 3, 4, 5, 6])
        book.change((0, 0), "v", [])
        self.assertEqual(again, [0, 1, 3, 4, 5, 6])

    def test_the_list_handed_in_is_not_the_one_told(self):
        book = self.grown()
        numbers = [0, 1, 2]
        told = book.closure(numbers)
        told.append("mine")
        self.assertEqual(numbers, [0, 1, 2])

    def test_a_long_row_of_needs(self):
        book = self.book(40, 40)
        for number in range(1500):
            book.change((number % 40, number // 40), number, [number - 1] if number else [])
        self.assertEqual(book.closure([1499]), list(range(1500)))
        self.assertEqual(book.closure([700, 3]), list(range(701)))

    def test_a_long_row_at_one_place(self):
        book = self.book(1, 1)
        for number in range(1200):
            book.change((0, 0), number, [])
        self.assertEqual(book.closure([1199]), list(range(1200)))

    def test_three_hundred_numbers(self):
        book = self.book(40, 40)
        for number in range(600):
            book.change((number % 40, number // 40), number, [])
        numbers = list(range(598, -2, -2))
        self.assertEqual(book.closure(numbers), sorted(numbers))

    def test_as_the_model_tells(self):
        for seed in range(20):
            chance = chance_of(seed)
            book = self.book(chance.randint(1, 5), chance.randint(1, 5))
            model = Model(self.plank)
            grow(chance, self.plank, [book, model], range(80))
            self.assertEqual([book.needed(number) for number in range(80)], list(map(model.needed, range(80))))
            for _ in range(20):
                numbers = chance.choices(range(80), k=chance.randint(0, 6))
                self.assertEqual(book.closure(numbers), model.closure(numbers))
            for place in model.at_first:
                self.assertEqual(book.newest(place), model.newest(place))
                self.assertEqual(repr(book.in_hand(place)), repr(model.value_at(place)))


class BookNumberTest(NumberTests, unittest.TestCase):
    kind = Book


class BookHandTest(HandTests, unittest.TestCase):
    kind = Book

    def test_the_asker_writes_the_plank_under_a_book(self):
        book = self.book()
        book.change((1, 0), "mine", [])
        for value in ("one", "two", None, (3,)):
            self.plank.write(1, [value, value])
            self.plank.write(2, [value, value])
            self.assertEqual(book.in_hand((1, 1)), value)
            self.assertEqual(book.in_hand((2, 0)), value)
            self.assertEqual(book.in_hand((1, 0)), "mine")
            self.assertIsNone(book.newest((1, 1)))
        self.assertEqual(book.waiting(), [0])

    def test_a_book_writes_nothing(self):
        self.assertFalse(hasattr(self.book(), "write"))


class BookNeedTest(NeedTests, unittest.TestCase):
    kind = Book


class BookRefusalTest(RefusalTests, unittest.TestCase):
    kind = Book


class BookClosureTest(ClosureTests, unittest.TestCase):
    kind = Book


class HoldNumberTest(NumberTests, unittest.TestCase):
    kind = Hold


class HoldHandTest(HandTests, unittest.TestCase):
    kind = Hold


class HoldNeedTest(NeedTests, unittest.TestCase):
    kind = Hold

    def test_needs_that_are_out_are_told(self):
        hold = self.grown()
        hold.write(0)
        hold.write(1)
        self.assertEqual(hold.waiting(), [])
        number = hold.change((1, 0), "v", [1, 0, 1])
        self.assertEqual(hold.needed(number), [0, 1, 2])
        hold.write(1)
        self.assertEqual(hold.needed(number), [0, 1, 2])


class HoldRefusalTest(RefusalTests, unittest.TestCase):
    kind = Hold


class HoldClosureTest(ClosureTests, unittest.TestCase):
    kind = Hold

    def test_only_what_waits_is_in_it(self):
        hold = self.grown()
        hold.write(0)
        self.assertEqual(hold.waiting(), [2, 3, 4, 5, 6])
        self.assertEqual(hold.closure([4]), [3, 4])
        self.assertEqual(hold.closure([4, 0, 1]), [3, 4])
        self.assertEqual(hold.closure([0, 1, 0]), [])
        hold.write(1)
        hold.write(2)
        self.assertEqual(hold.closure([0, 1, 2, 3, 4, 5, 6]), [])

    def test_numbers_that_no_change_has_behind_such_as_are_out(self):
        hold = self.grown()
        for block in range(3):
            hold.write(block)
        for bad in (-1, 7):
            for numbers in ([bad], [0, bad], [bad, 6]):
                with self.assertRaises(NoChange):
                    hold.closure(numbers)

    def test_a_told_closure_stays_when_it_is_written(self):
        hold = self.grown()
        told, waiting = hold.closure([4]), hold.waiting()
        hold.write(0)
        self.assertEqual(told, [0, 1, 3, 4])
        self.assertEqual(waiting, [0, 1, 2, 3, 4, 5, 6])


if __name__ == "__main__":
    unittest.main()
