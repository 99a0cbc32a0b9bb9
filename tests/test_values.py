import unittest

from holdback.planks import Plank
from holdback.values import is_value

PRINTABLE = [chr(code) for code in range(ord(" "), ord("~") + 1)]


def nested(deep, inside=()):
    """A tuple `deep` deep; `inside` are the parts of the innermost one."""
    thing = tuple(inside)
    for _ in range(deep - 1):
        thing = (thing,)
    return thing


class ValueTest(unittest.TestCase):
    def is_one(self, *things):
        for thing in things:
            with self.subTest(thing=thing):
                self.assertIs(is_value(thing), True)

    def is_none(self, *things):
        for thing in things:
            with self.subTest(thing=thing):
                self.assertIs(is_value(thing), False)


class SingleValueTest(ValueTest):
    def test_none(self):
        self.is_one(None)

    def test_whole_numbers_to_their_bounds(self):
        self.is_one(0, 1, -1, 10 ** 30 - 1, 10 ** 30, 1 - 10 ** 30, -10 ** 30)

    def test_whole_numbers_beyond_their_bounds(self):
        self.is_none(10 ** 30 + 1, -10 ** 30 - 1, 10 ** 60, -10 ** 60)

    def test_numbers_too_long_to_be_written_out(self):
        self.assertIs(is_value(10 ** 5000), False)
        self.assertIs(is_value((-10 ** 5000,)), False)

    def test_truths(self):
        self.is_none(True, False)

    def test_truths_within_tuples(self):
        self.is_none((True,), (False,), (1, True), (0, False, 0), ((False,),), (1, (2, (True,))))

    def test_things_of_other_kinds(self):
        self.is_none(0.0, 1.5, 1j, b"", b"a", {1}, frozenset(), object(), int, len, range(2), ...)
        self.is_none(float("nan"), float("inf"), iter(()), bytearray(b"a"))


class TextValueTest(ValueTest):
    def test_text_without_signs(self):
        self.is_one("")

    def test_texts_by_length(self):
        self.is_one("a", "a" * 59, "a" * 60, " " * 60)
        self.is_none("a" * 61, " " * 61, "a" * 1000)

    def test_length_is_counted_within_tuples_too(self):
        self.is_one(("a" * 60,), ("a" * 60, "b" * 60))
        self.is_none(("a" * 61,), (1, ("a" * 61,)))

    def test_each_sign_from_the_blank_to_the_tilde_but_percent(self):
        for sign in PRINTABLE:
            with self.subTest(sign=sign):
                self.assertIs(is_value(sign), sign != "%")
                self.assertIs(is_value("a" + sign + "b"), sign != "%")

    def test_signs_around_the_bounds(self):
        self.is_one(" ", "~", "$", "&")
        self.is_none("\x1f", "\x7f", "\x00", "\t", "\n", "\r")

    def test_bad_sign_at_any_place(self):
        for bad in ("\t", "\n", "%", "\x7f", "\u00e9", "\u20ac", "\ud800", "\U0001f600"):
            self.is_none(bad, bad + "ab", "a" + bad + "b", "ab" + bad, "a" * 59 + bad)
            self.is_none((bad,), (1, ("ab" + bad,)))


class TupleValueTest(ValueTest):
    def test_empty_tuple(self):
        self.is_one((), ((),), ((), ()), (((),),))

    def test_the_empty_tuple_counts_in_the_depth(self):
        self.is_none(((((),),),))

    def test_all_kinds_of_values_together(self):
        self.is_one((None, 0, "", ()), ("name", 3), (1, (0, 4, 2)), (None, (None, (None, -1, "z"))))

    def test_three_and_four_deep(self):
        self.is_one(nested(1, [1]), nested(2, [1]), nested(3, [1]), nested(3, [None, "a", 1]))
        self.is_none(nested(4, [1]), nested(4), nested(5), nested(5, [1]))

    def test_the_deep_one_at_any_place(self):
        for place in range(5):
            parts = [1, "a", None, (), (2,)]
            parts[place] = nested(2, [1])
            self.is_one(tuple(parts))
            parts[place] = nested(3, [1])
            self.is_none(tuple(parts))
            parts[place] = nested(3)
            self.is_none(tuple(parts))

    def test_the_deep_one_at_any_place_of_an_inner_tuple(self):
        for place in range(4):
            parts = [1, "a", None, ()]
            parts[place] = (1,)
            self.is_one((0, tuple(parts), 0))
            parts[place] = ((1,),)
            self.is_none((0, tuple(parts), 0))

    def test_tuples_beside_one_another_do_not_add_up(self):
        self.is_one(((1,), (2,), (3,), ((4,), (5,))))

    def test_very_deep_ones(self):
        self.assertIs(is_value(nested(50000)), False)

    def test_three_hundred_parts(self):
        self.is_one((1,) * 300, ("a",) * 300, (None,) * 299, ((),) * 300)
        self.is_none((1,) * 301, (None,) * 301, ((),) * 301, (0,) * 1000)

    def test_three_hundred_parts_within(self):
        self.is_one(((1,) * 300,), (0, (1,) * 300), (((1,) * 300,),))
        self.is_none(((1,) * 301,), (0, (1,) * 301), ((1,) * 301, 0), (((1,) * 301,),))

    def test_each_tuple_is_counted_by_itself(self):
        self.is_one(((1,) * 300,) * 2, ((1,) * 300,) * 300, ((1,) * 200, (2,) * 200))

    def test_bad_part_at_any_place(self):
        for place in range(3):
            for bad in (True, [], {}, 1.5, 10 ** 30 + 1, "%"):
                parts = [0, "a", (1,)]
                parts[place] = bad
                self.is_none(tuple(parts), (tuple(parts),))


class NoValueTest(ValueTest):
    def test_lists_and_dicts(self):
        self.is_none([], [1], [None], {}, {"a": 1}, {1: None})

    def test_lists_and_dicts_within_tuples(self):
        self.is_none(([],), ([1],), (1, [2]), ((1, []),), ({},), (1, {2: 3}), (("a", ({},)),))

    def test_what_is_asked_about_stays(self):
        things = [1, [2], {"a": (3,)}]
        self.is_none(things, (things,))
        self.assertEqual(things, [1, [2], {"a": (3,)}])

    def test_planks(self):
        self.is_none(Plank(1, 1))

    def test_planks_within_tuples(self):
        self.is_none((Plank(1, 1),), (1, Plank(2, 2)), (1, (2, Plank(1, 1))))


if __name__ == "__main__":
    unittest.main()
