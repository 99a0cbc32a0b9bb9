import unittest

from holdback.errors import NoRoom
from holdback.holds import Hold
from holdback.layouts import Layout
from holdback.rooms import free_name, free_piece, free_record, is_name, is_piece
from model import all_of

SIGNS = [chr(number) for number in range(ord(" "), ord("~") + 1)]
LETTERS = "abcdefghijklmnopqrstuvwxyz"
# Beyond what is handed in, but none of them is a small letter or a sign from the blank to `~`.
BEYOND = ["\n", "\t", "\x00", "\x1f", "\x7f", "\x80", "\u00e9", "\u00df", "\u0430", "\uff41", "\u00aa"]


class NamesTest(unittest.TestCase):
    def test_names(self):
        for text in ("a", "z", "m", "ab", "zz", "az", "letters", "abcdefgh", "stuvwxyz", "aaaaaaaa"):
            self.assertIs(is_name(text), True, text)

    def test_every_small_letter(self):
        self.assertTrue(all(is_name(letter) and is_name("a" + letter) and is_name(letter * 8) for letter in LETTERS))

    def test_no_names(self):
        for text in (
            "", "A", "Z", "Abc", "abC", "aBc", "0", "a1", "1a", "a0b", " ", " a", "a ", "a b", "-", "a-b", "a_b", "_",
            "abcdefghi", "abcdefghijklmnopqrstuvwxyz", "ABCDEFGH", "abcdefg ", " abcdefg", "12345678", "~", "`", "{",
        ):
            self.assertIs(is_name(text), False, text)

    def test_each_length(self):
        for many in range(91):
            self.assertIs(is_name("q" * many), 1 <= many <= 8, many)

    def test_each_other_sign_at_each_end_and_between(self):
        for sign in SIGNS + BEYOND:
            if sign not in LETTERS:
                for text in (sign, sign + "a", "a" + sign, "ab" + sign + "cd", sign + "abcdefg", "abcdefg" + sign):
                    self.assertIs(is_name(text), False, text)


class PiecesTest(unittest.TestCase):
    def test_pieces(self):
        for text in ("a", " ", "~", "  ", "a b", " a", "a ", "A1!", "x" * 40, " " * 40, "~" * 40, "0", "(){}[]\\'\"`"):
            self.assertIs(is_piece(text), True, text)

    def test_each_sign(self):
        for sign in SIGNS:
            for text in (sign, sign + "b", "a" + sign, "a" + sign + "b", sign * 40, "x" * 39 + sign):
                self.assertIs(is_piece(text), sign != "%", text)
            self.assertIs(is_piece("x" * 40 + sign), False)

    def test_no_sign(self):
        self.assertIs(is_piece(""), False)

    def test_each_length(self):
        for many in range(91):
            self.assertIs(is_piece("q" * many), 1 <= many <= 40, many)
            self.assertIs(is_piece(" " * many), 1 <= many <= 40, many)

    def test_signs_beyond(self):
        for sign in BEYOND:
            for text in (sign, sign + "b", "a" + sign, "a" + sign + "b"):
                self.assertIs(is_piece(text), False, text)


def names_of(layout):
    return free_name, [layout.name_at(k) for k in range(layout.counts()[0])], ("abc", 0)


def records_of(layout):
    return free_record, [layout.record_mark(k) for k in range(layout.counts()[1])], 1


def pieces_of(layout):
    return free_piece, [layout.piece_mark(k) for k in range(layout.counts()[2])], 1


KINDS = (names_of, records_of, pieces_of)


def put_on(plank, place, value):
    values = plank.read(place[0])
    values[place[1]] = value
    plank.write(place[0], values)


class FreeTest(unittest.TestCase):
    def setUp(self):
        self.layout = Layout(2, 3, 4, 3)
        self.plank = self.layout.plank()
        self.hold = Hold(self.plank)

    def test_lowest_first_till_none_is_free(self):
        for kind in KINDS:
            free, places, taken = kind(self.layout)
            for number, place in enumerate(places):
                self.assertEqual(free(self.layout, self.hold), number)
                self.hold.change(place, taken, [])
            with self.assertRaises(NoRoom):
                free(self.layout, self.hold)

    def test_what_came_free_again_and_of_several_the_lowest(self):
        for kind in KINDS:
            free, places, taken = kind(self.layout)
            for place in places:
                self.hold.change(place, taken, [])
            for number in (5, 4, 1):
                self.hold.change(places[number], None, [])
                self.assertEqual(free(self.layout, self.hold), number)
            self.hold.change(places[1], taken, [])
            self.assertEqual(free(self.layout, self.hold), 4)

    def test_the_last_alone(self):
        for kind in KINDS:
            free, places, taken = kind(self.layout)
            for place in places[:-1]:
                self.hold.change(place, taken, [])
            self.assertEqual(free(self.layout, self.hold), len(places) - 1)

    def test_a_mark_of_0_is_free(self):
        for kind in (records_of, pieces_of):
            free, places, taken = kind(self.layout)
            for place in places:
                self.hold.change(place, taken, [])
            for number in (6, 2, 0):
                self.hold.change(places[number], 0, [])
                self.assertEqual(free(self.layout, self.hold), number)

    def test_marks_on_the_plank(self):
        for kind in (records_of, pieces_of):
            free, places, taken = kind(self.layout)
            for place, value in zip(places, (1, 1, 1, 0, 1, None)):
                put_on(self.plank, place, value)
            self.assertEqual(free(self.layout, self.hold), 3)
            put_on(self.plank, places[3], 1)
            self.assertEqual(free(self.layout, self.hold), 5)

    def test_names_on_the_plank(self):
        for number in (0, 1, 3):
            put_on(self.plank, self.layout.name_at(number), ("n" * (number + 1), 0))
        self.assertEqual(free_name(self.layout, self.hold), 2)

    def test_what_is_in_hand_counts_not_what_the_plank_has(self):
        for kind in KINDS:
            free, places, taken = kind(self.layout)
            put_on(self.plank, places[0], taken)
            self.assertEqual(free(self.layout, self.hold), 1)
            self.hold.change(places[0], None, [])
            self.assertEqual(free(self.layout, self.hold), 0)
            self.hold.write(places[0][0])
            self.hold.change(places[0], taken, [])
            self.assertEqual(free(self.layout, self.hold), 1)

    def test_the_own_cell_of_a_record_or_a_piece_does_not_count(self):
        for number in range(4):
            self.hold.change(self.layout.record_at(number), (1, ()), [])
            put_on(self.plank, self.layout.piece_at(number), "left")
        self.assertEqual(free_record(self.layout, self.hold), 0)
        self.assertEqual(free_piece(self.layout, self.hold), 0)
        # And what has a mark is taken, though its own cell has None.
        self.hold.change(self.layout.record_mark(0), 1, [])
        self.hold.change(self.layout.record_mark(1), 1, [])
        self.hold.change(self.layout.piece_mark(0), 1, [])
        self.hold.change(self.layout.piece_at(0), None, [])
        self.assertEqual(free_record(self.layout, self.hold), 2)
        self.assertEqual(free_piece(self.layout, self.hold), 1)

    def test_the_three_do_not_meet(self):
        self.hold.change(self.layout.name_at(0), ("a", 0), [])
        self.assertEqual([free(self.layout, self.hold) for free in (free_name, free_record, free_piece)], [1, 0, 0])
        self.hold.change(self.layout.record_mark(0), 1, [])
        self.hold.change(self.layout.record_mark(1), 1, [])
        self.assertEqual([free(self.layout, self.hold) for free in (free_name, free_record, free_piece)], [1, 2, 0])
        self.hold.change(self.layout.piece_mark(0), 1, [])
        self.assertEqual([free(self.layout, self.hold) for free in (free_name, free_record, free_piece)], [1, 2, 1])

    def test_asking_changes_nothing(self):
        for kind in KINDS:
            free, places, taken = kind(self.layout)
            before = (all_of(self.plank), self.plank.writings(), self.hold.waiting())
            self.assertEqual([free(self.layout, self.hold) for _ in range(3)], [0, 0, 0])
            self.assertEqual((all_of(self.plank), self.plank.writings(), self.hold.waiting()), before)

    def test_none_free_changes_nothing(self):
        for kind in KINDS:
            layout = Layout(1, 1, 1, 2)
            free, places, taken = kind(layout)
            plank = layout.plank()
            put_on(plank, places[0], taken)
            hold = Hold(plank)
            hold.change(places[1], taken, [])
            before = (all_of(plank), plank.writings())
            for _ in range(2):
                with self.assertRaises(NoRoom):
                    free(layout, hold)
            self.assertEqual((all_of(plank), plank.writings(), hold.waiting()), (before[0], before[1], [0]))
            self.assertEqual(hold.in_hand(places[1]), taken)
            self.assertEqual(hold.change(places[0], None, []), 1)
            self.assertEqual(free(layout, hold), 0)


if __name__ == "__main__":
    unittest.main()
