"""Point 2: what a whole number is, and that what is kept is a copy."""

import unittest

from paceplan.things import copied, is_number_of, is_rising, is_tuple_of, is_whole


class WholeNumbers(unittest.TestCase):
    def test_whole_numbers(self):
        for thing in (0, 1, -1, 10 ** 199, -(10 ** 199)):
            self.assertIs(is_whole(thing), True)

    def test_other_things(self):
        for thing in (True, False, None, "", "1", (), (1,), [], [1]):
            self.assertIs(is_whole(thing), False)


class TuplesAndNumbers(unittest.TestCase):
    def test_tuples_of_a_length(self):
        for thing, length in (((), 0), ((1,), 1), ((None, []), 2)):
            self.assertIs(is_tuple_of(thing, length), True)
        for thing, length in (([], 0), ("ab", 2), ((1,), 2), ((1, 2, 3), 2), (None, 0), (2, 2)):
            self.assertIs(is_tuple_of(thing, length), False)

    def test_numbers_of_so_many(self):
        for thing, count in ((0, 1), (0, 24), (23, 24)):
            self.assertIs(is_number_of(thing, count), True)
        for thing, count in ((0, 0), (24, 24), (-1, 24), (True, 24), (False, 24), ("0", 24), (None, 24), ((0,), 24)):
            self.assertIs(is_number_of(thing, count), False)

    def test_rising_numbers(self):
        for thing in ((), (0,), (23,), (0, 1, 23), tuple(range(24))):
            self.assertIs(is_rising(thing, 24), True)
        for thing in ([], [0, 1], (1, 0), (1, 1), (0, 24), (-1, 0), (0, True), (False,), (0, "1"), (0, None), ((0,),),
                      None, 0, "01", (0, 2, 1), (5, 6, 6)):
            self.assertIs(is_rising(thing, 24), False)


class Copies(unittest.TestCase):
    def test_plain_things_are_alike_to_the_kind(self):
        for thing in (0, True, None, "a", (), [], (1, [True, ("x", None)], [[]])):
            self.assertEqual(repr(copied(thing)), repr(thing))

    def test_lists_at_any_depth_are_others(self):
        inner = [1]
        thing = [inner, (inner, 2)]
        copy = copied(thing)
        inner.append(3)
        thing.append(4)
        self.assertEqual(copy, [[1], ([1], 2)])


if __name__ == "__main__":
    unittest.main()
