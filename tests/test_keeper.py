"""Points 33 and 34: a keeper, which does not know what comes, and its plan of works."""

import unittest
from random import Random

from paceplan.dealing import least_plan
from paceplan.errors import NoTurn, NoWork
from paceplan.keeper import Keeper, kept_plan
from paceplan.plans import power_of, right_plan, speeds_of
from paceplan.stretches import layer_speeds
from support import NO_RATIOS, NOUGHT, ONE, STRAYS, Case, fraction, pair, plan_of, ratio_from, works_from

HALF = (1, 2)
SQUARE = ("power", 2)


def state_of(keeper):
    """All that a keeper tells, shown."""
    return repr((keeper.now(), keeper.works(), keeper.left(), keeper.plan()))


def kept_by_words(works):
    """The keeper's plan, in Fractions, by what the least plan of what is left has in each turn."""
    left = {}
    plan = []
    for turn in range(24):
        for number, work in enumerate(works):
            if work[0] == turn:
                left[number] = fraction(work[2])
        numbers = [number for number in left if left[number] > 0]
        now = tuple([(turn, works[number][1], pair(left[number])) for number in numbers])
        pieces = [(numbers[place], amount) for place, amount in least_plan((now, ()))[turn]]
        for number, amount in pieces:
            left[number] -= fraction(amount)
        plan.append(tuple(pieces))
    return tuple(plan)


def planned_speeds(keeper):
    """The speeds that a keeper plans from its turn on."""
    now = keeper.now()
    waiting = [(now, work[1], rest) for work, rest in zip(keeper.works(), keeper.left()) if rest != NOUGHT]
    return [fraction(speed) for speed in layer_speeds(tuple(waiting))][now:]


class KeeperCase(Case):
    def refuse(self, keeper, refusal, method, *things):
        """What is refused changes nothing."""
        state = state_of(keeper)
        with self.subTest(things=things):
            with self.assertRaises(refusal) as caught:
                method(*things)
            self.assertIs(type(caught.exception), refusal)
            self.assertEqual(state_of(keeper), state)


class Comings(KeeperCase):
    def test_at_first(self):
        self.assertEqual(state_of(Keeper()), repr((0, (), (), ())))

    def test_numbers_from_nought_on(self):
        keeper = Keeper()
        for number in range(20):
            self.assert_told(number, keeper.come, 23 - number, (number + 1, 3) if number % 3 != 2 else (number, 1))
        self.assertEqual(len(keeper.works()), 20)

    def test_a_work_comes_at_the_present_turn(self):
        keeper = Keeper()
        self.assertEqual(keeper.come(0, HALF), 0)
        keeper.go()
        keeper.go()
        self.assertEqual(keeper.come(2, ONE), 1)
        self.assertEqual(keeper.come(23, (7, 2)), 2)
        self.assertEqual(repr(keeper.works()), repr(((0, 0, HALF), (2, 2, ONE), (2, 23, (7, 2)))))
        self.assertEqual(repr(keeper.left()), repr((NOUGHT, ONE, (7, 2))))

    def test_last_turns_that_are_none(self):
        keeper = Keeper()
        for turn in range(3):
            keeper.come(23, ONE)
            for last in (True, False, None, "5", "", (5,), [5], (), -1, 24, 25, 10 ** 199, -(10 ** 199), turn - 1):
                self.refuse(keeper, NoWork, keeper.come, last, ONE)
            keeper.go()
        for last in (0, 1, 2):
            self.refuse(keeper, NoWork, keeper.come, last, ONE)
        self.assert_told(3, keeper.come, 3, ONE)
        self.assert_told(4, keeper.come, 23, ONE)

    def test_amounts_that_are_none(self):
        keeper = Keeper()
        keeper.come(5, ONE)
        for amount in NO_RATIOS + (NOUGHT, (-1, 1), (-1, 10 ** 60), (2, 4), [1, 2], (1, -2), "1/2"):
            self.refuse(keeper, NoWork, keeper.come, 9, amount)
        self.assert_told(1, keeper.come, 9, (1, 10 ** 199))

    def test_any_things(self):
        keeper = Keeper()
        for thing in STRAYS:
            self.refuse(keeper, NoWork, keeper.come, thing, thing)
            if not isinstance(thing, int) or isinstance(thing, bool) or thing not in range(24):
                self.refuse(keeper, NoWork, keeper.come, thing, ONE)
            if thing != ONE:
                self.refuse(keeper, NoWork, keeper.come, 9, thing)

    def test_a_twenty_first_work(self):
        keeper = Keeper()
        for number in range(20):
            keeper.come(number, ONE)
        self.refuse(keeper, NoWork, keeper.come, 23, ONE)
        keeper.go()
        self.refuse(keeper, NoWork, keeper.come, 23, ONE)
        for turn in range(1, 24):
            keeper.go()
        self.assertEqual(keeper.left(), (NOUGHT,) * 20)
        self.refuse(keeper, NoWork, keeper.come, 23, ONE)

    def test_at_turn_24(self):
        keeper = Keeper()
        for turn in range(24):
            keeper.go()
        for last in (0, 22, 23, 24, 25):
            self.refuse(keeper, NoWork, keeper.come, last, ONE)


class Goings(KeeperCase):
    def test_from_turn_0_to_24(self):
        keeper = Keeper()
        for turn in range(24):
            self.assertEqual(repr(keeper.now()), repr(turn))
            self.assertEqual(repr(keeper.plan()), repr(((),) * turn))
            self.assert_told((), keeper.go)
        self.assertEqual(state_of(keeper), repr((24, (), (), ((),) * 24)))
        self.refuse(keeper, NoTurn, keeper.go)
        self.refuse(keeper, NoTurn, keeper.go)

    def test_pieces_with_the_works_numbers(self):
        keeper = Keeper()
        keeper.come(0, ONE)
        keeper.come(2, (3, 1))
        self.assert_told(((0, ONE), (1, (1, 3))), keeper.go)
        self.assertEqual(state_of(keeper), repr((1, ((0, 0, ONE), (0, 2, (3, 1))), (NOUGHT, (8, 3)),
                                                 (((0, ONE), (1, (1, 3))),))))
        keeper.come(4, HALF)
        keeper.come(1, ONE)
        # Of 8/3 and 1 in turns 1 and 2 half each; the work with the earliest last turn goes first.
        self.assert_told(((3, ONE), (1, (5, 6))), keeper.go)
        self.assert_told(((1, (11, 6)),), keeper.go)
        self.assert_told(((2, (1, 4)),), keeper.go)
        self.assert_told(((2, (1, 4)),), keeper.go)
        self.assert_told((), keeper.go)
        self.assertEqual(keeper.left(), (NOUGHT,) * 4)
        self.assertEqual(keeper.now(), 6)

    def test_a_work_at_the_last_turn(self):
        keeper = Keeper()
        for turn in range(23):
            keeper.go()
        keeper.come(23, (5, 3))
        self.assert_told(((0, (5, 3)),), keeper.go)
        self.refuse(keeper, NoTurn, keeper.go)
        self.assertEqual(keeper.now(), 24)

    def test_like_lasts_go_by_numbers(self):
        keeper = Keeper()
        keeper.come(1, ONE)
        keeper.come(1, (2, 1))
        keeper.come(1, ONE)
        self.assert_told(((0, ONE), (1, ONE)), keeper.go)
        self.assert_told(((1, ONE), (2, ONE)), keeper.go)

    def test_nobody_changes_it_from_outside(self):
        keeper = Keeper()
        amount = (3, 2)
        keeper.come(2, amount)
        told = (keeper.works(), keeper.left(), keeper.plan(), keeper.go(), keeper.plan())
        kept = repr(told)
        keeper.come(5, ONE)
        keeper.go()
        self.assertEqual(repr(told), kept)
        for thing in told:
            self.assertIs(type(thing), tuple)

    def test_two_keepers_know_nothing_of_each_other(self):
        one = Keeper()
        other = Keeper()
        one.come(5, ONE)
        one.go()
        self.assertEqual(state_of(other), repr((0, (), (), ())))
        self.assertEqual(other.come(9, HALF), 0)
        self.assertEqual(one.works(), ((0, 5, ONE),))

    def test_left_is_what_the_plan_leaves(self):
        source = Random(331)
        for step in range(10):
            keeper = Keeper()
            rest = []
            done = []
            for turn in range(24):
                for number in range(source.choice((0, 0, 1, 2))):
                    if len(rest) < 20:
                        amount = ratio_from(source, 4, 3)
                        self.assert_told(len(rest), keeper.come, source.randrange(turn, 24), amount)
                        rest.append(fraction(amount))
                pieces = keeper.go()
                for number, amount in pieces:
                    rest[number] -= fraction(amount)
                done.append(pieces)
                self.assertEqual(repr(keeper.left()), repr(tuple([pair(one) for one in rest])))
                self.assertEqual(repr(keeper.plan()), repr(tuple(done)))
                self.assertEqual(keeper.now(), turn + 1)
            self.assertEqual(set(keeper.left()), {NOUGHT} if rest else set())
            self.assert_told(True, right_plan, (keeper.works(), ()), keeper.plan())
            self.assert_told(keeper.plan(), kept_plan, keeper.works())


class KeptPlans(Case):
    def test_of_no_works(self):
        self.assert_told(plan_of({}), kept_plan, ())

    def test_of_works_that_all_come_at_once(self):
        works = ((0, 3, (2, 1)), (0, 23, ONE), (0, 0, (5, 1)))
        self.assert_told(least_plan((works, ())), kept_plan, works)

    def test_works_not_by_first_turns(self):
        works = ((2, 3, (2, 1)), (0, 3, (4, 1)), (2, 2, ONE))
        # Of like lasts the one that came first goes ahead.
        plan = plan_of({0: [(1, ONE)], 1: [(1, ONE)], 2: [(2, ONE), (1, (3, 2))], 3: [(1, HALF), (0, (2, 1))]})
        self.assert_told(plan, kept_plan, works)
        plan = plan_of({0: [(0, ONE)], 1: [(0, ONE)], 2: [(1, ONE), (0, (3, 2))], 3: [(0, HALF), (2, (2, 1))]})
        self.assert_told(plan, kept_plan, (works[1], works[2], works[0]))

    def test_by_the_words(self):
        source = Random(341)
        for step in range(12):
            works = works_from(source, source.randrange(1, 21))
            self.assert_told(kept_by_words(works), kept_plan, works)

    def test_right_plans_of_works_in_any_order(self):
        source = Random(342)
        for step in range(15):
            works = works_from(source, source.randrange(1, 21))
            self.assert_told(True, right_plan, (works, ()), kept_plan(works))

    def test_planned_speeds_do_not_rise_and_no_coming_lowers_them(self):
        source = Random(343)
        for step in range(8):
            keeper = Keeper()
            for turn in range(24):
                for number in range(source.choice((0, 1, 2))):
                    if len(keeper.works()) < 20:
                        before = planned_speeds(keeper)
                        keeper.come(source.randrange(turn, 24), ratio_from(source, 4, 3))
                        after = planned_speeds(keeper)
                        self.assertTrue(all([low <= high for low, high in zip(before, after)]))
                planned = planned_speeds(keeper)
                self.assertEqual(planned, sorted(planned, reverse=True))
                pieces = keeper.go()
                self.assertEqual(sum([fraction(amount) for number, amount in pieces]), planned[0])
                # What is planned stays planned as long as nothing comes.
                self.assertEqual(planned_speeds(keeper), planned[1:])

    def test_power_by_works_that_come_unknown(self):
        works = ((0, 1, (2, 1)), (1, 1, (2, 1)))
        self.assertEqual(power_of(SQUARE, speeds_of(kept_plan(works))), (10, 1))
        self.assertEqual(power_of(SQUARE, speeds_of(least_plan((works, ())))), (8, 1))


if __name__ == "__main__":
    unittest.main()
