import unittest

from holdback.errors import NoBlock, NoName, NoPiece, NoRoom, NoRow, Twice
from holdback.house import House
from holdback.layouts import Layout
from holdback.planks import Plank
from holdback.walks import walk
from house_model import NO_ROWS, HouseModel, row_for_house, said
from model import all_of, chance_of
from store_model import sizes_for
from walk_model import state_of

# Names in blocks 0 and 1, records in 2 and 3, pieces in 4 and 5, marks of records in 6 and 7, of pieces in 8
# and 9, two cells in each.
SIZES = (2, 2, 2, 2)


def house_with(*rows, sizes=SIZES):
    house = House(Layout(*sizes))
    for row in rows:
        house.say(row)
    return house


def write_all(house):
    """Each block again and again, till nothing is held back; then each once more puts nothing out."""
    blocks = range(house.plank().blocks())
    answers = [house.say(f"write {block}") for block in blocks]
    while set(answers) != {"0 0"}:
        answers = [house.say(f"write {block}") for block in blocks]


def in_hand(house):
    """All that can be asked of a house without a change."""
    names = house.say("names")
    standing = [] if names == "-" else names.split(" ")
    shown = [(house.say("show " + name), house.say("keep " + name)) for name in standing]
    return (names, shown, state_of(house.plank()))


class HouseCase(unittest.TestCase):
    def assert_answers(self, house, *rows):
        for row, answer in rows:
            told = house.say(row)
            self.assertEqual((row, told), (row, answer))
            self.assertIs(told.__class__, str)

    def assert_refused(self, error, *rows, house=None):
        house = house or self.house
        for row in rows:
            before = in_hand(house)
            with self.assertRaises(error, msg=repr(row)) as caught:
                house.say(row)
            self.assertIs(caught.exception.__class__, error, row)
            self.assertEqual(in_hand(house), before, row)


class AnswerTest(HouseCase):
    def test_begun_on_a_new_plank(self):
        layout = Layout(*SIZES)
        house = House(layout)
        self.assertIsInstance(house.plank(), Plank)
        self.assertEqual(state_of(house.plank()), ([[None, None]] * 10, 0))
        other = House(layout)
        self.assertIsNot(house.plank(), other.plank())
        house.say("make a")
        write_all(house)
        self.assertEqual((other.say("names"), other.plank().writings()), ("-", 0))

    def test_deeds_are_answered_by_ok(self):
        self.assert_answers(
            house_with(), ("make a", "ok"), ("put a some text", "ok"), ("link a b", "ok"), ("names", "a b"),
            ("show b", "some text"), ("take b 0", "ok"), ("show a", ""), ("move a longname", "ok"),
            ("names", "b longname"), ("cut b", "ok"), ("names", "longname"), ("cut longname", "ok"), ("names", "-"),
        )

    def test_names_sorted(self):
        self.assert_answers(
            house_with(), ("names", "-"), ("make m", "ok"), ("names", "m"), ("make z", "ok"), ("link m a", "ok"),
            ("make mm", "ok"), ("names", "a m mm z"),
        )

    def test_show_joins_the_texts_with_nothing_between(self):
        house = house_with("make a", "put a one", "put a two", "put a 3")
        self.assert_answers(house, ("show a", "onetwo3"), ("take a 1", "ok"), ("show a", "one3"))
        self.assert_answers(house, ("put a  x ", "ok"), ("show a", "one3 x "))

    def test_show_of_a_name_without_pieces(self):
        self.assert_answers(house_with("make a"), ("show a", ""))

    def test_put_takes_all_behind_the_blank(self):
        for text in (
            "x", "two words", " begins", "ends ", "  two ahead", "two behind  ", "a  b   c", " ", "   ",
            "~!\"#$&'()*+,-./", "put a x", "0", "-", "x" * 40, " " * 40,
        ):
            house = house_with("make a")
            self.assert_answers(house, ("put a " + text, "ok"), ("show a", text))

    def test_write_tells_two_numbers(self):
        house = house_with("make a", "make b", "put a x")
        # 0 to 2 make a, 3 to 5 make b, 6 to 8 put: the mark, the piece, the record.
        self.assert_answers(
            house, ("write 0", "0 2"), ("write 2", "0 3"), ("write 6", "2 0"), ("write 2", "2 1"), ("write 0", "2 0"),
            ("write 0", "0 0"), ("write 9", "0 0"), ("write 4", "0 1"), ("write 8", "1 0"), ("write 4", "1 0"),
            ("write 2", "1 0"), ("write 2", "0 0"),
        )
        self.assertEqual(house.plank().writings(), 12)

    def test_writings_of_more_than_nine(self):
        house = house_with(*["make " + name for name in ("a", "b", "c", "d", "e", "f")], sizes=(1, 1, 1, 6))
        self.assert_answers(house, *[(f"put a {k}", "ok") for k in range(6)], ("write 1", "0 12"), ("write 3", "6 0"))
        self.assert_answers(house, ("write 4", "6 0"), ("write 2", "6 0"), ("write 1", "12 0"), ("write 0", "6 0"))

    def test_blocks_of_two_figures(self):
        house = house_with("make a", sizes=(6, 6, 6, 1))
        self.assert_answers(house, ("write 29", "0 0"), ("write 18", "1 0"), ("keep a", "6 0"), ("put a x", "ok"))
        self.assert_answers(house, ("keep a", "6 0 24 12 6"))

    def test_keep(self):
        house = house_with("make a", "make c")
        self.assert_answers(house, ("keep a", "6 2 0"), ("put a x", "ok"), ("keep a", "6 2 0 8 4 2"))
        self.assertEqual(house.plank().writings(), 0)
        for block in house.say("keep a").split(" "):
            house.say("write " + block)
        self.assert_answers(house, ("keep a", "-"), ("put a y", "ok"), ("cut c", "ok"), ("stop", "0"), ("names", "a c"))
        self.assert_answers(house, ("show a", "x"), ("keep a", "-"))

    def test_words_that_look_like_others(self):
        rows = [("make make", "ok"), ("link make names", "ok"), ("move names stop", "ok"), ("names", "make stop")]
        self.assert_answers(house_with(), *rows, ("put stop stop", "ok"), ("show make", "stop"), ("cut stop", "ok"))

    def test_take_at_each_place(self):
        house = house_with("make a", *[f"put a {sign}" for sign in "abcdefghijkl"], sizes=(1, 1, 2, 6))
        self.assert_answers(
            house, ("take a 11", "ok"), ("take a 10", "ok"), ("take a 0", "ok"), ("show a", "bcdefghij"),
            ("take a 5", "ok"), ("show a", "bcdefhij"),
        )


class StopTest(HouseCase):
    def test_of_a_new_house(self):
        house = house_with()
        self.assert_answers(house, ("stop", "0"), ("stop", "0"), ("names", "-"))
        self.assertEqual(house.plank().writings(), 0)

    def test_all_in_hand_is_lost(self):
        house = house_with("make a", "put a x")
        self.assert_answers(house, ("stop", "0"), ("names", "-"))
        self.assert_refused(NoName, "show a", "keep a", house=house)
        self.assert_answers(house, ("make a", "ok"), ("show a", ""), ("keep a", "6 2 0"))

    def test_what_was_written_is_there(self):
        house = house_with("make a", "put a x", "link a b")
        write_all(house)
        for row in ("put a y", "cut b", "make c"):
            house.say(row)
        self.assert_answers(house, ("stop", "0"), ("names", "a b"), ("show a", "x"), ("show b", "x"))

    def test_how_many_finds_were_mended(self):
        house = house_with("make a", "put a x", "link a b", "make c")
        # Marks of two records and one piece; then the record of a as it was made.
        for block, answer in ((6, "2 0"), (8, "1 0"), (2, "2 2")):
            self.assert_answers(house, (f"write {block}", answer))
        finds = [("left", "record", 0), ("left", "record", 1), ("left", "piece", 0)]
        self.assertEqual(walk(Layout(*SIZES), house.plank()), finds)
        self.assert_answers(house, ("stop", "3"), ("stop", "0"), ("names", "-"))
        self.assertEqual(walk(Layout(*SIZES), house.plank()), [])
        self.assertEqual(all_of(house.plank()), [[None, None]] * 6 + [[0, 0], [None, None], [0, None], [None, None]])

    def test_each_kind_of_leaving(self):
        house = house_with("make a")
        write_all(house)
        house.say("link a b")
        self.assert_answers(house, ("write 2", "1 0"), ("stop", "1"), ("cut a", "ok"), ("names", "-"))
        # The count was mended to 1, so the cut took the record away.
        write_all(house)
        self.assertEqual(walk(Layout(*SIZES), house.plank()), [])
        self.assertEqual(house.plank().read(2), [None, None])
        self.assert_answers(house, ("make a", "ok"), ("write 6", "1 0"), ("stop", "1"), ("write 6", "0 0"))

    def test_all_goes_on(self):
        house = house_with("make a", "put a x")
        write_all(house)
        house.say("stop")
        self.assert_answers(
            house, ("put a y", "ok"), ("show a", "xy"), ("link a b", "ok"), ("take b 0", "ok"), ("move a c", "ok"),
            ("names", "b c"), ("show c", "y"),
        )
        write_all(house)
        self.assert_answers(house, ("stop", "0"), ("names", "b c"), ("show b", "y"), ("keep b", "-"))

    def test_the_very_plank_each_time(self):
        house = house_with("make a")
        plank = house.plank()
        self.assertIs(house.plank(), plank)
        house.say("write 6")
        house.say("stop")
        self.assertIs(house.plank(), plank)
        for row in ("make a", "write 6", "write 2", "write 0", "stop"):
            house.say(row)
        self.assertIs(house.plank(), plank)
        self.assertEqual(plank.read(0), [("a", 0), None])
        # One for each that was said, and one by which the mark was mended.
        self.assertEqual(plank.writings(), 5)


class NoRowTest(HouseCase):
    def setUp(self):
        self.house = house_with("make a", "put a x", "link a b", "write 6", "write 2")

    def test_rows_of_no_form(self):
        self.assert_refused(NoRow, *NO_ROWS)

    def test_words_missing(self):
        for word in ("make", "link", "cut", "put", "take", "move", "write", "keep", "show"):
            self.assert_refused(NoRow, word)
        self.assert_refused(NoRow, "link a", "move a", "take a", "put a", "link ", "move ", "put ", "take ")

    def test_too_many_words(self):
        self.assert_refused(
            NoRow, "make c d", "link a c d", "cut a b", "take a 0 0", "move a c d", "write 0 0", "keep a a", "show a b",
            "names a", "stop now",
        )

    def test_a_blank_at_either_end(self):
        for row in (
            "make c", "link a c", "cut a", "take a 0", "move a c", "write 0", "keep a", "show a", "names", "stop",
        ):
            self.assert_refused(NoRow, " " + row, row + " ", " " + row + " ")
        self.assert_refused(NoRow, " put a x")

    def test_two_blanks(self):
        self.assert_refused(
            NoRow, "make  c", "cut  a", "take  a 0", "take a  0", "write  0", "keep  a", "show  a", "link  a c",
            "link a  c", "move a  c",
        )

    def test_great_letters(self):
        for row in (
            "make c", "link a c", "cut a", "put a x", "take a 0", "move a c", "write 0", "keep a", "show a", "names",
            "stop",
        ):
            self.assert_refused(NoRow, row.upper(), row[0].upper() + row[1:])

    def test_other_words_and_none(self):
        self.assert_refused(
            NoRow, "", " ", "  ", "a", "ok", "-", "0", "mak c", "makes c", "make-c", "make\tc", "makec", "name",
            "shows a", "read 0", "walk", "mend", "plank", "x" * 1000, "names\n", "stop\n", "\nstop",
        )

    def test_numbers_that_are_none(self):
        for word in (
            "", "00", "01", "007", "000", "010", "-0", "-1", "+0", "+1", "1000", "0000", "9999", "1.", "1.0", "1_0",
            "0x1", "a", "x1", "1x", "1e1", "\u0661", "\u00b2", "0\n", "1\n",
        ):
            self.assert_refused(NoRow, "take a " + word, "write " + word)

    def test_ahead_of_all_else(self):
        # What the deed would refuse by itself is not asked.
        self.assert_refused(
            NoRow, "make A b", "make a b", "cut zz zz", "take zz 01", "take A 1000", "take a -1", "link a b c",
            "keep A a", "show zz zz", "write 010", "write 1000", "put zz", "take zz",
        )


class RefusalTest(HouseCase):
    def setUp(self):
        self.house = house_with("make a", "put a x", "link a b", "make c")

    def test_words_that_are_no_names(self):
        for word in ("", "A", "Abc", "a1", "1", "-", "abcdefghi", "x" * 900):
            self.assert_refused(
                NoName, f"make {word}", f"link {word} d", f"link a {word}", f"cut {word}", f"put {word} x",
                f"take {word} 0", f"move {word} d", f"move a {word}", f"keep {word}", f"show {word}",
            )

    def test_words_without_signs(self):
        self.assert_refused(
            NoName, "make ", "link  d", "link a ", "link  ", "cut ", "put  x", "put  ", "put   ", "take  0", "move  d",
            "move a ", "move  ", "keep ", "show ",
        )

    def test_names_that_do_not_stand(self):
        self.assert_refused(
            NoName, "link d e", "cut d", "put d x", "put d ", "take d 0", "take d 999", "move d e", "keep d", "show d",
        )

    def test_a_name_that_stands_already(self):
        self.assert_refused(Twice, "make a", "link a b", "link d a", "move c a", "move d a", "link a a", "move a a")

    def test_texts_that_are_none_of_a_piece(self):
        self.assert_refused(NoPiece, "put a ", "put a 5%", "put a " + "x" * 41, "put a " + " " * 41, "put a %")

    def test_no_piece_there(self):
        self.assert_refused(NoPiece, "take a 1", "take a 2", "take a 10", "take a 999", "take c 0")

    def test_no_room(self):
        self.house.say("link a d")
        self.assert_refused(NoRoom, "make e", "link a e", "move a e")
        for text in ("1", "2", "3"):
            self.house.say("put c " + text)
        self.assert_refused(NoRoom, "put a 4", "put c 4")

    def test_no_block(self):
        self.assert_refused(NoBlock, "write 10", "write 11", "write 99", "write 100", "write 999")
        self.assert_answers(self.house, ("write 9", "0 0"), ("write 0", "0 2"))
        small = house_with(sizes=(1, 1, 1, 1))
        self.assert_refused(NoBlock, "write 5", house=small)
        self.assert_answers(small, ("write 4", "0 0"))

    def test_behind_refusals_all_goes_on_as_without_them(self):
        plain = house_with("make a", "put a x", "link a b", "make c")
        for row in NO_ROWS + ("make A", "make a", "cut d", "put a ", "take a 7", "write 10", "keep d", "show A"):
            said(self.house, row)
        for house in (plain, self.house):
            house.say("cut a")
            house.say("make a")
        self.assertEqual(in_hand(plain), in_hand(self.house))
        for turn in range(4):
            for block in range(10):
                self.assertEqual(plain.say(f"write {block}"), self.house.say(f"write {block}"))
        self.assertEqual(in_hand(plain), in_hand(self.house))


class LongRowTest(unittest.TestCase):
    def test_each_row_as_the_second_telling_has_it(self):
        met = {}
        for seed in range(60):
            chance = chance_of(seed)
            sizes = sizes_for(chance)
            house, model = House(Layout(*sizes)), HouseModel(sizes)
            blocks, writing = len(model.blocks()), chance.choice((0.2, 0.5, 0.7))
            for number in range(120):
                row = row_for_house(chance, model.store.names(), blocks, number, writing)
                answer = said(model, row)
                self.assertEqual((row, said(house, row)), (row, answer))
                self.assertEqual(repr(all_of(house.plank())), repr(model.blocks()), row)
                kind = answer if isinstance(answer, type) else row.split(" ")[0]
                met[kind] = met.get(kind, 0) + 1
        # Else the rows would have been too plain ones.
        self.assertLessEqual({NoRow, NoName, NoBlock, NoRoom, NoPiece, Twice, "make", "link", "cut", "put", "take",
                              "move", "write", "keep", "show", "names", "stop"}, set(met))


if __name__ == "__main__":
    unittest.main()
