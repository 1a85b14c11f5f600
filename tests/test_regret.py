"""Regret and share of a plan (points 13 and 15)."""

import random
import unittest

from lostleast.errors import LossError, NoShare, TooLarge
from lostleast.least import greatest_share, least_regret, regret_of, share_of, worst_for
from lostleast.plans import Plan, comings
from lostleast.ratio import Ratio
from lostleast.tree import End, Move, ends_of
from tests.games import SMALL, WITHOUT_SHARE, random_trees
from tests.helpers import (
    all_pure, choices, fraction, plan, pure, slow_average, slow_differences, slow_hindsights, tree)
from tests.test_average import random_plan

MATCH = "var x 3 var y 3 come x 3 choose y 3 if = x y pay + 1 x end"
NONE = Plan([])
SIXTY_FIVE = "var x 9 come x 8 come x 8"


def slow_share(root, chooser):
    pairs = zip(slow_hindsights(root), all_pure(root, "comer"))
    return min(slow_average(root, chooser, coming) / top for top, coming in pairs if top != 0)


class RegretTest(unittest.TestCase):

    def assertRegret(self, root, chooser, regret, worst):
        found = regret_of(root, chooser)
        self.assertIsInstance(found, Ratio)
        self.assertEqual(str(found), str(regret))
        coming = worst_for(root, chooser)
        self.assertIsInstance(coming, Plan)
        self.assertEqual(choices(coming), tuple(worst))

    def test_plans_without_lots(self):
        root = tree(MATCH)
        self.assertRegret(root, pure(root, "chooser", 0), 3, [2])
        self.assertRegret(root, pure(root, "chooser", 1), 3, [2])
        self.assertRegret(root, pure(root, "chooser", 2), 2, [1])

    def test_plans_with_lots(self):
        root = tree(MATCH)
        self.assertRegret(root, plan(root, "chooser", "0 1/4 3/4"), "3/2", [1])
        self.assertRegret(root, plan(root, "chooser", "1/6 1/3 1/2"), "3/2", [2])
        self.assertRegret(root, plan(root, "chooser", "0 2/5 3/5"), "6/5", [1])

    def test_the_first_coming_of_several(self):
        root = tree(MATCH)
        self.assertRegret(root, plan(root, "chooser", "0 1/2 1/2"), "3/2", [2])
        self.assertRegret(root, plan(root, "chooser", "0 2/5 3/5"), "6/5", [1])
        root = tree("var x 9 var y 9 come x 4 choose y 4 if = x y pay 1 end")
        self.assertRegret(root, pure(root, "chooser", 0), 1, [1])
        self.assertRegret(root, pure(root, "chooser", 1), 1, [0])
        self.assertRegret(root, plan(root, "chooser", "1/2 1/4 1/8 1/8"), "7/8", [2])
        root = tree("var x 9 draw x 2 show comer x come x 2 pay 4")
        self.assertRegret(root, NONE, 0, [0, 0])

    def test_worst_for_makes_all_moves_of_the_comer(self):
        root = tree("var x 2 var z 9 draw z 2 show comer z come x 2 choose z 2 if = x z pay 1 end")
        self.assertRegret(root, pure(root, "chooser", 0), 1, [1, 1])
        self.assertRegret(root, pure(root, "chooser", 1), 1, [0, 0])
        self.assertTrue(worst_for(root, pure(root, "chooser", 0)) == comings(root)[3])

    def test_plans_that_leave_views_out(self):
        root = tree(MATCH)
        self.assertRegret(root, NONE, 3, [2])
        self.assertRegret(root, plan(root, "chooser", "0 1"), 3, [2])
        self.assertRegret(root, Plan([((("asked", 7, 3),), [Ratio(0), Ratio(1), Ratio(0)])]), 3, [2])

    def test_games_without_moves(self):
        for text in ("", "pay 7", "take 7", "var x 9 draw x 3 pay x"):
            self.assertRegret(tree(text), NONE, 0, [])
        self.assertRegret(End(-2), NONE, 0, [])

    def test_games_with_moves_of_one_seat(self):
        self.assertRegret(tree("var x 9 choose x 3 pay x"), NONE, 2, [])
        self.assertRegret(tree("var x 9 come x 3 pay x"), NONE, 0, [0])

    def test_negative_ends(self):
        root = tree("var x 9 var y 9 come x 2 choose y 2 if = x y take 5 else take 8 end")
        self.assertRegret(root, pure(root, "chooser", 0), 3, [1])
        self.assertRegret(root, plan(root, "chooser", "1/3 2/3"), 2, [0])

    def test_asked_again(self):
        root = tree(MATCH)
        chooser = plan(root, "chooser", "0 2/5 3/5")
        entries = chooser.entries()
        for _ in range(2):
            self.assertEqual(str(regret_of(tree=root, plan=chooser)), "6/5")
            self.assertEqual(choices(worst_for(tree=root, plan=chooser)), (1,))
        self.assertEqual(chooser.entries(), entries)

    def test_many_games(self):
        rng = random.Random(8)
        for text, root in random_trees(31, 100, debts=True) + [(text, tree(text)) for text in SMALL]:
            chooser = random_plan(root, "chooser", rng)
            differences = slow_differences(root, chooser)
            worst = all_pure(root, "comer")[differences.index(max(differences))]
            with self.subTest(text):
                self.assertRegret(root, chooser, max(differences), choices(worst))


class ShareTest(unittest.TestCase):

    def assertShare(self, root, chooser, share):
        found = share_of(root, chooser)
        self.assertIsInstance(found, Ratio)
        self.assertEqual(str(found), str(share))

    def assertNoShare(self, root, what):
        chooser = NONE
        for call in (lambda: share_of(root, chooser), lambda: greatest_share(root)):
            with self.assertRaises(NoShare) as caught:
                call()
            self.assertEqual(caught.exception.what, what)
            self.assertIsInstance(caught.exception, LossError)

    def test_plans(self):
        root = tree(MATCH)
        self.assertShare(root, pure(root, "chooser", 0), 0)
        self.assertShare(root, plan(root, "chooser", "1/3 1/3 1/3"), "1/3")
        self.assertShare(root, plan(root, "chooser", "1/2 1/3 1/6"), "1/6")
        self.assertShare(root, plan(root, "chooser", "1/9 5/9 1/3"), "1/9")
        root = tree("var x 9 var y 9 come x 2 choose y 2 if = x y pay 3 else pay 1 end")
        self.assertShare(root, pure(root, "chooser", 0), "1/3")
        self.assertShare(root, plan(root, "chooser", "1/2 1/2"), "2/3")

    def test_plans_that_leave_views_out(self):
        root = tree("var x 9 var y 9 come x 2 choose y 2 if = x y pay 3 else pay 1 end")
        self.assertShare(root, NONE, "1/3")
        self.assertShare(root, plan(root, "chooser", "0 0 1"), "1/3")

    def test_a_whole_share(self):
        root = tree("var x 9 come x 2 pay + 1 x")
        self.assertShare(root, NONE, 1)
        self.assertShare(tree("pay 7"), NONE, 1)
        self.assertShare(tree("var x 9 draw x 3 pay x"), NONE, 1)

    def test_comings_with_hindsight_0_ask_for_nothing(self):
        root = tree("var x 9 var y 9 come x 2 choose y 2 pay * x y")
        self.assertShare(root, pure(root, "chooser", 1), 1)
        self.assertShare(root, pure(root, "chooser", 0), 0)
        self.assertShare(root, plan(root, "chooser", "3/4 1/4"), "1/4")
        root = tree("var x 9 var y 9 come x 3 choose y 2 if = x 1 pay + 1 y end")
        self.assertShare(root, pure(root, "chooser", 0), "1/2")

    def test_some_end_pays_less_than_0(self):
        self.assertNoShare(tree("take 1"), "negative")
        self.assertNoShare(tree("var x 9 choose x 3 if = x 1 take 1 else pay 5 end"), "negative")
        self.assertNoShare(tree("var x 9 draw x 8 pay 5 if = x 7 take 6 end"), "negative")
        self.assertNoShare(tree("var x 9 come x 2 if x take 1 end"), "negative")

    def test_all_hindsights_are_0(self):
        for text in ("", "var x 9 choose x 3", "var x 9 come x 2 draw x 3 pay 0", "pay 3 take 3"):
            self.assertNoShare(tree(text), "nothing")
        self.assertNoShare(End(0), "nothing")

    def test_negative_ahead_of_nothing(self):
        # No hindsight is above 0 here, and the ends are below 0 or 0.
        self.assertNoShare(tree("var x 9 choose x 2 take x"), "negative")
        self.assertNoShare(tree("take 3"), "negative")
        for text in WITHOUT_SHARE:
            root = tree(text)
            self.assertNoShare(root, "negative" if min(ends_of(root)) < 0 else "nothing")

    def test_an_end_of_0_is_not_below_0(self):
        root = tree("var x 9 choose x 2 pay x")
        self.assertShare(root, NONE, 0)
        self.assertShare(root, pure(root, "chooser", 1), 1)

    def test_asked_again(self):
        root = tree(MATCH)
        for _ in range(2):
            self.assertEqual(str(share_of(tree=root, plan=plan(root, "chooser", "1/2 1/3 1/6"))), "1/6")

    def test_many_games(self):
        rng = random.Random(9)
        games = [(text, tree(text)) for text in SMALL if text not in WITHOUT_SHARE] + random_trees(32, 100)
        told = 0
        for text, root in games:
            if min(ends_of(root)) < 0 or max(slow_hindsights(root)) == 0:
                continue
            told += 1
            chooser = random_plan(root, "chooser", rng)
            with self.subTest(text):
                self.assertShare(root, chooser, slow_share(root, chooser))
        self.assertGreater(told, 80)


class MeaningTest(unittest.TestCase):

    def test_what_a_plan_is_paid_against_any_rule(self):
        rng = random.Random(12)
        for text, root in random_trees(33, 40, debts=True):
            chooser, comer = random_plan(root, "chooser", rng), random_plan(root, "comer", rng)
            regret = fraction(regret_of(root, chooser))
            weights = [coming_weight(root, comer, coming) for coming in all_pure(root, "comer")]
            self.assertEqual(sum(weights), 1)
            tops = sum(weight * top for weight, top in zip(weights, slow_hindsights(root)))
            with self.subTest(text):
                self.assertGreaterEqual(slow_average(root, chooser, comer), tops - regret)


def coming_weight(root, comer, coming):
    """How often a plan with lots, drawn at all views beforehand, is this coming."""
    told = {view: lots for view, lots in comer.entries()}
    weight = 1
    for view, lots in coming.entries():
        move = [lot.num for lot in lots].index(1)
        known = view in told and len(told[view]) == len(lots)
        weight *= fraction(told[view][move]) if known else int(move == 0)
    return weight


class TooLargeTest(unittest.TestCase):

    def assertTooLarge(self, root):
        for call in (lambda: regret_of(root, NONE), lambda: worst_for(root, NONE), lambda: share_of(root, NONE),
                     lambda: least_regret(root), lambda: greatest_share(root)):
            with self.assertRaises(TooLarge) as caught:
                call()
            self.assertEqual(caught.exception.what, "comings")

    def test_more_than_64_comings(self):
        self.assertTooLarge(tree(SIXTY_FIVE + " pay x"))
        self.assertTooLarge(Move("comer", (("asked", 0, 65),), [End(1)] * 65))

    def test_ahead_of_no_share(self):
        self.assertTooLarge(tree(SIXTY_FIVE))
        self.assertTooLarge(tree(SIXTY_FIVE + " take 1"))


if __name__ == "__main__":
    unittest.main()
