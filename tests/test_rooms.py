"""Points 28 and 29: turns that are too few, and plans of one hand below a greatest speed."""

import copy
import unittest
from fractions import Fraction
from random import Random

from paceplan.errors import NoMuch
from paceplan.plans import right_plan, speeds_of
from paceplan.rooms import fits, lets_much
from paceplan.stretches import layer_speeds
from support import NOUGHT, ONE, STRAYS, Case, fraction, pair, plan_of, ratio_from, works_and_plan, works_from

HALF = (1, 2)
TINY = Fraction(1, 10 ** 30)
ALL = tuple(range(24))
# In turns 4 and 5 three have to be done, in 3 to 6 five and a half.
WORKS = ((4, 5, (3, 1)), (3, 6, (5, 2)), (0, 23, ONE))


def is_too_much(works, hands, top, turns):
    """Whether turns are too few, in Fractions, by the document's words."""
    speed = fraction(top)
    need = sum([max(0, fraction(amount) - speed * len(set(range(first, last + 1)) - set(turns)))
                for first, last, amount in works], Fraction(0))
    return need > hands * speed * len(turns)


class TooFew(Case):
    def let_by(self, works, hands, top, turns):
        self.assertTrue(is_too_much(works, hands, top, turns))
        self.assert_told(True, lets_much, works, hands, top, turns)

    def refuse(self, works, hands, top, turns):
        self.assertFalse(is_too_much(works, hands, top, turns))
        self.assert_refused(NoMuch("room"), lets_much, works, hands, top, turns)

    def test_turns_that_are_too_few(self):
        self.let_by(WORKS, 1, ONE, (4, 5))
        self.let_by(WORKS, 1, (4, 3), (3, 4, 5, 6))
        self.refuse(WORKS, 1, (3, 2), (4, 5))
        self.refuse(WORKS, 1, ONE, (0, 1, 2))

    def test_just_as_much_as_can_be_done(self):
        self.refuse(WORKS, 1, (11, 8), (3, 4, 5, 6))
        self.let_by(WORKS, 1, pair(Fraction(11, 8) - TINY), (3, 4, 5, 6))
        self.refuse(WORKS, 1, pair(Fraction(11, 8) + TINY), (3, 4, 5, 6))
        self.refuse(WORKS[:1], 1, (3, 2), (4, 5))
        self.refuse(WORKS[:1], 1, (3, 2), ())

    def test_no_turns(self):
        for hands in (1, 2, 9):
            self.let_by(((4, 5, (3, 1)),), hands, ONE, ())
            self.let_by(((4, 5, (3, 1)), (0, 0, ONE)), hands, pair(Fraction(3, 2) - TINY), ())
            self.refuse(((4, 5, (3, 1)),), hands, (3, 2), ())
            self.refuse((), hands, ONE, ())

    def test_all_turns(self):
        works = ((0, 23, (20, 1)), (0, 23, (20, 1)), (0, 23, (20, 1)))
        self.let_by(works, 1, (2, 1), ALL)
        self.refuse(works, 1, (5, 2), ALL)
        self.let_by(works, 2, ONE, ALL)
        self.refuse(works, 2, (5, 4), ALL)
        self.refuse(works, 9, ONE, ALL)
        self.let_by(works, 9, (1, 4), ALL)
        self.refuse((), 1, ONE, ALL)

    def test_hands(self):
        works = tuple([(2, 3, (2, 1)) for number in range(10)])
        for hands, top in ((1, (10, 1)), (2, (5, 1)), (9, (10, 9))):
            self.refuse(works, hands, top, (2, 3))
            self.let_by(works, hands, pair(fraction(top) - TINY), (2, 3))

    def test_what_is_left_for_the_other_turns_is_not_below_nought(self):
        works = ((4, 5, (3, 1)), (0, 23, ONE))
        self.let_by(works, 1, ONE, (4, 5))
        self.let_by(works, 1, ONE, (4,))

    def test_turns_out_of_windows_count_as_room(self):
        self.let_by(((4, 5, (3, 1)),), 1, pair(1 - TINY), (4, 5, 6))
        self.refuse(((4, 5, (3, 1)),), 1, ONE, (4, 5, 6))

    def test_any_thing(self):
        for thing in STRAYS:
            if thing not in ((), (1, 1), (0, 1)):
                self.assert_refused(NoMuch("shape"), lets_much, WORKS, 1, (1, 100), thing)
        self.assert_refused(NoMuch("shape"), lets_much, WORKS, 1, (1, 100), (1, 1))
        self.assert_told(True, lets_much, WORKS, 1, (1, 100), (0, 1))
        self.assert_told(True, lets_much, WORKS, 1, (1, 100), ())

    def test_shapes(self):
        for thing in ([4, 5], [], (5, 4), (4, 4), (4, 5, 5), (4, 6, 5), (4, 24), (24,), (-1,), (-1, 4), (4, True),
                      (True,), (False, 4), (4, "5"), (4, None), ((4, 5),), (4, (5,)), (4, [5]), (4, 10 ** 199), "45"):
            self.assert_refused(NoMuch("shape"), lets_much, WORKS, 1, (1, 100), thing)
            self.assert_refused(NoMuch("shape"), lets_much, WORKS, 1, (100, 1), thing)
            self.assert_refused(NoMuch("shape"), lets_much, (), 1, ONE, thing)

    def test_by_the_words(self):
        source = Random(281)
        for step in range(400):
            works = works_from(source, source.randrange(8))
            turns = tuple(sorted(source.sample(range(24), source.choice((0, 1, 2, 5, 20, 24)))))
            hands = source.choice((1, 2, 9))
            top = ratio_from(source, 2, 6)
            check = self.let_by if is_too_much(works, hands, top, turns) else self.refuse
            check(works, hands, top, turns)

    def test_let_by_means_that_no_plan_is_slow_enough(self):
        source = Random(282)
        for step in range(200):
            works, plan = works_and_plan(source, 5)
            top = max(speeds_of(plan), key=fraction)
            turns = tuple(sorted(source.sample(range(24), source.randrange(25))))
            self.refuse(works, 1, top, turns)


class Fits(Case):
    def told(self, word, works, top):
        """What is told behind the word that has to be told."""
        kept = copy.deepcopy((works, top))
        told = fits(works, top)
        self.assertEqual((works, top), kept)
        self.assertEqual(repr(told), repr((word, told[1])))
        return told[1]

    def assert_fits(self, works, top):
        plan = self.told("fits", works, top)
        self.assert_told(True, right_plan, (works, ()), plan)
        self.assertLessEqual(max([fraction(speed) for speed in speeds_of(plan)]), fraction(top))

    def assert_much(self, works, top):
        self.assert_told(True, lets_much, works, 1, top, self.told("much", works, top))

    def test_of_no_works(self):
        self.assert_told(("fits", plan_of({})), fits, (), ONE)
        self.assert_told(("fits", plan_of({})), fits, (), (1, 10 ** 60))

    def test_of_one_work(self):
        works = ((4, 5, (3, 1)),)
        self.assert_fits(works, (3, 2))
        self.assert_fits(works, (10 ** 60, 1))
        self.assert_much(works, pair(Fraction(3, 2) - TINY))
        self.assert_much(works, (1, 10 ** 60))

    def test_around_the_greatest_speed_of_the_layers(self):
        source = Random(291)
        for step in range(150):
            works = works_from(source, source.randrange(1, 21))
            greatest = max([fraction(speed) for speed in layer_speeds(works)])
            for top in (greatest, greatest + TINY, greatest * 2):
                self.assert_fits(works, pair(top))
            for top in (greatest - TINY, greatest / 2, greatest / 100):
                self.assert_much(works, pair(top))

    def test_several_layers(self):
        self.assert_fits(WORKS, (3, 2))
        self.assert_much(WORKS, pair(Fraction(3, 2) - TINY))
        self.assert_much(WORKS, ONE)
        self.assertNotEqual(layer_speeds(WORKS)[0], NOUGHT)


if __name__ == "__main__":
    unittest.main()
