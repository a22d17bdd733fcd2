"""Points 6 and 7: sheets, and windows that are drawn in."""

import copy
import itertools
import unittest
from random import Random

from paceplan.errors import NoRoom, NoSheet
from paceplan.works import drawn_in, right_sheet
from support import leaned_on

WORK = (0, 23, (1, 1))
CHAIN = tuple([(place, place + 1) for place in range(19)])
FAR = tuple([(place, place + 2) for place in range(18)])


def works_of(count):
    return tuple([WORK for place in range(count)])


def windows_of(*windows):
    """Works with these windows, their amounts unlike so that a swap would be seen."""
    return tuple([(first, last, (2 * place + 1, 2)) for place, (first, last) in enumerate(windows)])


def ring_by_walking(count, leans):
    for number in range(len(leans)):
        if any(work in leaned_on(leans[:number + 1], work) for work in range(count)):
            return number
    return None


def random_leans(source, count, length):
    pairs = list(itertools.permutations(range(count), 2))
    return tuple([source.choice(pairs) for step in range(length)])


class SheetCase(unittest.TestCase):
    def assert_right(self, thing):
        with self.subTest(thing=thing):
            self.assertIs(right_sheet(thing), True)

    def assert_refused(self, thing, word, number):
        with self.subTest(thing=thing):
            kept = copy.deepcopy(thing)
            with self.assertRaises(NoSheet) as caught:
                right_sheet(thing)
            self.assertEqual((caught.exception.word, caught.exception.number), (word, number))
            self.assertIs(type(caught.exception.number), int)
            self.assertEqual(repr(thing), repr(kept))


class RightSheets(SheetCase):
    def test_without_works(self):
        self.assert_right(((), ()))

    def test_without_leans(self):
        self.assert_right(((WORK,), ()))
        self.assert_right((works_of(20), ()))

    def test_edges_of_a_work(self):
        for work in ((0, 0, (1, 1)), (23, 23, (1, 1)), (0, 23, (1, 10 ** 199)), (5, 6, (10 ** 199, 1))):
            self.assert_right(((work,), ()))

    def test_twenty_works_and_forty_leans(self):
        leans = CHAIN + FAR + ((0, 3), (0, 4), (0, 5))
        self.assertEqual(len(leans), 40)
        self.assert_right((works_of(20), leans))
        self.assert_right((works_of(20), tuple(reversed(leans))))

    def test_a_pair_that_stands_twice(self):
        self.assert_right((works_of(2), ((0, 1), (0, 1))))
        self.assert_right((works_of(2), ((1, 0),) * 40))

    def test_many_ways_to_one_work_are_no_ring(self):
        self.assert_right((works_of(4), ((0, 1), (0, 2), (1, 3), (2, 3), (0, 3))))


class Shapes(SheetCase):
    def test_no_tuple(self):
        for thing in (None, True, 0, 2, "", "ab", [], [(), ()], [works_of(1), ()]):
            self.assert_refused(thing, "shape", -1)

    def test_lists_for_tuples(self):
        for thing in (([], ()), ((), []), ([], []), ([WORK], ()), ((WORK,), [(0, 1)])):
            self.assert_refused(thing, "shape", -1)

    def test_parts_of_other_kinds(self):
        for thing in ((None, ()), ((), None), ("", ""), ((), 0), (True, ()), ((), "ab")):
            self.assert_refused(thing, "shape", -1)

    def test_a_part_more_or_fewer(self):
        for thing in ((), ((),), ((), (), ()), ((WORK,), (), ()), ((WORK,),)):
            self.assert_refused(thing, "shape", -1)

    def test_too_many_works(self):
        self.assert_refused((works_of(21), ()), "shape", -1)

    def test_too_many_leans(self):
        self.assert_refused((works_of(2), ((0, 1),) * 41), "shape", -1)


class Works(SheetCase):
    def assert_no_work(self, thing):
        for ahead in (0, 1, 19):
            self.assert_refused((works_of(ahead) + (thing,), ()), "work", ahead)

    def test_no_tuple_of_three(self):
        for thing in (None, 0, True, "abc", [], [0, 23, (1, 1)], (), (0,), (0, 1), (0, 1, (1, 1), 0),
                      (0, 1, 1, 1)):
            self.assert_no_work(thing)

    def test_parts_of_other_kinds(self):
        for part in (True, False, "0", None, [0], (0,), (0, 1), []):
            self.assert_no_work((part, 23, (1, 1)))
            self.assert_no_work((0, part, (1, 1)))

    def test_truths_for_turns(self):
        self.assert_no_work((True, True, (1, 1)))
        self.assert_no_work((False, False, (1, 1)))

    def test_turns_beyond_the_edges(self):
        for first, last in ((-1, 0), (-1, -1), (0, 24), (24, 24), (23, 24), (-5, 30), (0, 10 ** 199)):
            self.assert_no_work((first, last, (1, 1)))

    def test_first_behind_last(self):
        for first, last in ((1, 0), (23, 0), (23, 22), (0, -1)):
            self.assert_no_work((first, last, (1, 1)))

    def test_amounts_not_above_nought(self):
        for amount in ((0, 1), (-1, 1), (-1, 2), (-(10 ** 199), 1)):
            self.assert_no_work((0, 23, amount))

    def test_amounts_that_are_no_ratios(self):
        for amount in (1, True, None, "1", "1/2", (), (1,), [1, 1], (1, 1, 1), (True, 1), (1, True), (2, 2),
                       (1, 0), (1, -1), (-1, -1), (0, 2), (4, 2), ("1", 1), ((1, 1), 1)):
            self.assert_no_work((0, 23, amount))

    def test_the_least_number_goes(self):
        wrong = (1, 0, (1, 1))
        self.assert_refused(((WORK, wrong, None), ()), "work", 1)
        self.assert_refused(((None, wrong, WORK), ()), "work", 0)
        self.assert_refused((works_of(18) + (wrong, wrong), ()), "work", 18)


class Leans(SheetCase):
    def assert_no_lean(self, thing):
        self.assert_refused((works_of(3), (thing,)), "lean", 0)
        self.assert_refused((works_of(3), ((0, 1), thing)), "lean", 1)
        self.assert_refused((works_of(3), ((0, 1),) * 39 + (thing,)), "lean", 39)

    def test_no_pair(self):
        for thing in (None, 0, True, "", "01", [], [0, 1], (), (0,), (0, 1, 2), ((0, 1),), (0, 1, 1)):
            self.assert_no_lean(thing)

    def test_parts_of_other_kinds(self):
        for part in (True, False, None, "1", [1], (1,), (1, 1)):
            self.assert_no_lean((part, 2))
            self.assert_no_lean((2, part))

    def test_numbers_of_no_work(self):
        for part in (-1, -3, 3, 4, 23, 10 ** 199):
            self.assert_no_lean((part, 0))
            self.assert_no_lean((0, part))

    def test_like_numbers(self):
        for part in (0, 1, 2):
            self.assert_no_lean((part, part))

    def test_without_works_none_is_a_lean(self):
        self.assert_refused(((), ((0, 1),)), "lean", 0)
        self.assert_refused(((WORK,), ((0, 1),)), "lean", 0)

    def test_the_least_number_goes(self):
        self.assert_refused((works_of(2), ((0, 1), (0, 0), None)), "lean", 1)


class Rings(SheetCase):
    def test_by_way_of_two(self):
        self.assert_refused((works_of(2), ((0, 1), (1, 0))), "ring", 1)
        self.assert_refused((works_of(3), ((0, 1), (0, 2), (0, 1), (1, 0), (2, 0))), "ring", 3)

    def test_by_way_of_three(self):
        self.assert_refused((works_of(3), ((0, 1), (1, 2), (2, 0))), "ring", 2)
        self.assert_refused((works_of(5), ((2, 0), (3, 4), (0, 1), (4, 2), (1, 2), (1, 3))), "ring", 4)

    def test_by_way_of_all(self):
        self.assert_refused((works_of(20), CHAIN + ((19, 0),)), "ring", 19)
        self.assert_refused((works_of(20), ((19, 0),) + tuple(reversed(CHAIN))), "ring", 19)
        self.assert_refused((works_of(20), CHAIN + ((0, 1),) * 20 + ((19, 5),)), "ring", 39)

    def test_all_rows_of_three_leans_of_three_works(self):
        pairs = list(itertools.permutations(range(3), 2))
        for leans in itertools.product(pairs, repeat=3):
            self.assert_ring_as_walked(3, leans)

    def test_many(self):
        source = Random(6)
        for step in range(300):
            count = source.randrange(2, 21)
            self.assert_ring_as_walked(count, random_leans(source, count, source.randrange(41)))

    def assert_ring_as_walked(self, count, leans):
        ring = ring_by_walking(count, leans)
        if ring is None:
            self.assert_right((works_of(count), leans))
        else:
            self.assert_refused((works_of(count), leans), "ring", ring)


class OrderOfRefusals(SheetCase):
    def test_shape_ahead_of_all(self):
        self.assert_refused(((None,) * 21, ()), "shape", -1)
        self.assert_refused(((None,), [None]), "shape", -1)
        self.assert_refused(((None,), ((0, 0),) * 41), "shape", -1)
        self.assert_refused((works_of(2), ((0, 1), (1, 0)) * 21), "shape", -1)

    def test_work_ahead_of_lean_and_ring(self):
        self.assert_refused((works_of(2) + (None,), (None,)), "work", 2)
        self.assert_refused((works_of(2) + (None,), ((0, 1), (1, 0))), "work", 2)

    def test_lean_ahead_of_ring(self):
        self.assert_refused((works_of(2), ((0, 1), (1, 0), (0, 0))), "lean", 2)
        self.assert_refused((works_of(2), ((0, 1), (1, 0), (0, 1), (2, 1))), "lean", 3)


class DrawnIn(unittest.TestCase):
    def assert_windows(self, windows, leans, expected):
        sheet = (windows_of(*windows), leans)
        self.assertIs(right_sheet(sheet), True)
        told = drawn_in(sheet)
        self.assertIs(type(told), tuple)
        self.assertEqual([type(work) for work in told], [tuple] * len(told))
        self.assertEqual(told, windows_of(*expected))
        self.assertEqual(sheet, (windows_of(*windows), leans))

    def assert_no_room(self, windows, leans, number):
        sheet = (windows_of(*windows), leans)
        self.assertIs(right_sheet(sheet), True)
        with self.assertRaises(NoRoom) as caught:
            drawn_in(sheet)
        self.assertEqual(caught.exception.work, number)
        self.assertIs(type(caught.exception.work), int)
        self.assertEqual(sheet, (windows_of(*windows), leans))

    def test_without_works(self):
        self.assertEqual(drawn_in(((), ())), ())

    def test_without_leans(self):
        windows = ((0, 23), (5, 5), (3, 9))
        self.assert_windows(windows, (), windows)

    def test_one_lean_raises_a_first_and_lowers_a_last(self):
        self.assert_windows(((5, 20), (2, 10)), ((0, 1),), ((5, 10), (5, 10)))
        self.assert_windows(((5, 20), (2, 10)), ((1, 0),), ((5, 20), (2, 10)))

    def test_a_pair_that_stands_twice(self):
        self.assert_windows(((5, 20), (2, 10)), ((0, 1), (0, 1)), ((5, 10), (5, 10)))

    def test_windows_that_stay(self):
        self.assert_windows(((0, 5), (6, 10)), ((0, 1),), ((0, 5), (6, 10)))

    def test_chains_in_any_order(self):
        windows = ((7, 23), (0, 22), (3, 21), (1, 9))
        expected = ((7, 9), (7, 9), (7, 9), (7, 9))
        for leans in itertools.permutations(((0, 1), (1, 2), (2, 3))):
            self.assert_windows(windows, leans, expected)

    def test_chains_of_numbers_in_any_order(self):
        windows = ((0, 20), (4, 23), (2, 12), (1, 15))
        expected = {3: (1, 12), 1: (4, 12), 0: (4, 12), 2: (4, 12)}
        for leans in itertools.permutations(((3, 1), (1, 0), (0, 2))):
            self.assert_windows(windows, leans, tuple([expected[place] for place in range(4)]))

    def test_by_way_of_others_on_both_sides(self):
        windows = ((6, 23), (2, 23), (0, 23), (0, 18), (0, 15))
        leans = ((2, 4), (0, 2), (1, 2), (2, 3))
        self.assert_windows(windows, leans, ((6, 15), (2, 15), (6, 15), (6, 18), (6, 15)))

    def test_others_beside_a_chain_stay(self):
        self.assert_windows(((9, 23), (0, 23), (0, 12)), ((0, 2),), ((9, 12), (0, 23), (9, 12)))

    def test_the_longest_chain(self):
        windows = ((8, 23),) + ((0, 23),) * 5
        leans = ((4, 5), (3, 4), (2, 3), (1, 2), (0, 1))
        self.assert_windows(windows, leans, ((8, 23),) * 6)
        works = ((8, 23, (1, 2)),) + works_of(18) + ((0, 11, (3, 1)),)
        told = drawn_in((works, tuple(reversed(CHAIN))))
        self.assertEqual(told, tuple([(8, 11, work[2]) for work in works]))

    def test_no_room_in_one_turn_too_few(self):
        self.assert_windows(((5, 9), (0, 5)), ((0, 1),), ((5, 5), (5, 5)))
        self.assert_no_room(((6, 9), (0, 5)), ((0, 1),), 0)

    def test_no_room_by_way_of_others(self):
        self.assert_no_room(((0, 23), (0, 4), (0, 23), (5, 23)), ((3, 2), (2, 1)), 1)
        self.assert_no_room(((0, 23), (0, 23), (0, 4), (5, 23)), ((1, 2), (3, 1)), 1)

    def test_the_least_number_has_no_room(self):
        self.assert_no_room(((0, 23), (0, 5), (6, 23), (0, 2), (9, 23)), ((4, 3), (2, 1)), 1)
        self.assert_no_room(((0, 23), (0, 23), (0, 23), (0, 2), (9, 23)), ((4, 3),), 3)

    def test_many_against_walking(self):
        source = Random(7)
        refused = 0
        for step in range(300):
            sheet = self.random_sheet(source)
            expected = self.walked(sheet)
            kept = copy.deepcopy(sheet)
            tight = [number for number, work in enumerate(expected) if work[0] > work[1]]
            if tight:
                refused += 1
                with self.assertRaises(NoRoom) as caught:
                    drawn_in(sheet)
                self.assertEqual(caught.exception.work, tight[0])
            else:
                self.assertEqual(drawn_in(sheet), expected)
            self.assertEqual(sheet, kept)
        self.assertTrue(50 < refused < 250)

    def random_sheet(self, source):
        count = source.randrange(2, 21)
        numbers = list(range(count))
        source.shuffle(numbers)
        # Leans go along one hidden order, so that none of these sheets has a ring.
        leans = [tuple([numbers[place] for place in sorted(source.sample(range(count), 2))])
                 for step in range(source.randrange(12))]
        works = [(source.randrange(12), source.randrange(11, 24), (step + 1, 1)) for step in range(count)]
        works[0] = (0, source.randrange(12), (1, 1))
        return (tuple(works), tuple(leans))

    def walked(self, sheet):
        works, leans = sheet
        flipped = [(leaner, base) for base, leaner in leans]
        told = []
        for number, work in enumerate(works):
            first = max([work[0]] + [works[base][0] for base in leaned_on(leans, number)])
            last = min([work[1]] + [works[leaner][1] for leaner in leaned_on(flipped, number)])
            told.append((first, last, work[2]))
        return tuple(told)


if __name__ == "__main__":
    unittest.main()
