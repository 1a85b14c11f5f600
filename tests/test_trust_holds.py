"""When a Trusted holds (point 22): each single condition, met and not met."""

import random
import unittest

from lostleast.errors import NoPlan, TooLarge
from lostleast.least import least_regret
from lostleast.plans import Plan
from lostleast.ratio import Ratio
from lostleast.tree import End, Move, views_of
from lostleast.trust import Trusted, most_trusted, trust_holds
from tests.games import SMALL, plans_in, random_trees
from tests.helpers import no_comings, plan, pure, ratio, ratios, told, tree
from tests.test_average import random_plan

MATCH = "var x 3 var y 3 come x 3 choose y 3 if = x y pay + 1 x end"
# Two views of the comer, who sees what is drawn; the chooser sees nothing.
SEEN = "var x 2 var y 2 var z 2 draw z 2 show comer z come x 2 choose y 2 if = x y pay + 1 z end"
SIXTY_FIVE = "var x 9 come x 8 come x 8"
TINY = Ratio(1, 10 ** 30)
FAR = Ratio(10 ** 6)


def weighted(root, *pairs):
    """Pairs of a coming, told by its moves, and a weight, told by a text."""
    return [(pure(root, "comer", *moves), ratio(weight)) for moves, weight in pairs]


class TrustHoldsTest(unittest.TestCase):

    def setUp(self):
        # The first move is expected; hindsight for the others is 2 and 3, and the regret 3/2 asks for 1/4 and 1/2.
        self.root = tree(MATCH)
        self.expected = pure(self.root, "comer", 0)
        self.most = ratio("3/2")
        self.found = Trusted(ratio("1/4"), plan(self.root, "chooser", "1/4 1/4 1/2"),
                             weighted(self.root, ([1], "1/2"), ([2], "1/3")))
        self.free = Trusted(Ratio(1), plan(self.root, "chooser", "1 0 0"), [])

    def assertHolds(self, result, root=None, expected=None, most=None, found=None, **fields):
        """That what was found holds or not if some of its fields are other ones, and that all stays as it is."""
        found = found or self.found
        root, expected, most = root or self.root, expected or self.expected, most or self.most
        made = Trusted(fields.get("value", found.value), fields.get("plan", found.plan),
                       fields.get("weights", found.weights))
        self.assertEqual(sorted(set(fields) - {"value", "plan", "weights"}), [])
        kept = shown(made, expected, most)
        self.assertIs(trust_holds(root, expected, most, made), result)
        self.assertEqual(shown(made, expected, most), kept)

    def test_what_holds(self):
        self.assertHolds(True)
        self.assertHolds(True, found=self.free, most=FAR)
        self.assertHolds(True, found=self.free, most=Ratio(3))
        self.assertIs(trust_holds(tree=self.root, expected=self.expected, most=self.most, found=self.found), True)

    def test_value(self):
        for value in (ratio("1/4") - TINY, ratio("1/4") + TINY, Ratio(0), Ratio(1), Ratio(-1, 4), Ratio(9)):
            self.assertHolds(False, value=value)
            self.assertHolds(False, value=value, weights=[])
        for value in (Ratio(1) - TINY, Ratio(1) + TINY, Ratio(0), Ratio(3)):
            self.assertHolds(False, value=value, found=self.free, most=FAR)

    def test_plan(self):
        for lots in ("1 0 0", "0 1/2 1/2", "1/4 0 3/4", "1/3 1/3 1/3", "1/4 1/2 1/4", "0 2/5 3/5", "1/5 1/4 11/20"):
            self.assertHolds(False, plan=plan(self.root, "chooser", lots))

    def test_the_value_and_the_plan(self):
        # The plan is paid the value; it is not the greatest one, or the plan has too much regret.
        for lots, value in (("1/5 3/10 1/2", "1/5"), ("0 2/5 3/5", "0"), ("1/3 1/6 1/2", "1/3"), ("1 0 0", "1")):
            self.assertHolds(False, plan=plan(self.root, "chooser", lots), value=ratio(value))
            self.assertHolds(False, plan=plan(self.root, "chooser", lots), value=ratio(value), weights=[])

    def test_several_plans_hold(self):
        # The chooser's second move pays nothing, whatever it is.
        root = tree("var x 2 var y 2 come x 2 choose y 2 if = x y pay 1 end choose y 2")
        expected, most = pure(root, "comer", 0), ratio("3/4")
        found = most_trusted(root, expected, most)
        for last in ("1 0", "1/7 6/7", "0 1"):
            made = plan(root, "chooser", "3/4 1/4", last, "1/2 1/2")
            self.assertHolds(True, root=root, expected=expected, most=most, found=found, plan=made)

    def test_a_plan_that_leaves_views_out(self):
        self.assertHolds(False, plan=Plan([]))
        self.assertHolds(True, found=self.free, most=FAR, plan=Plan([]))
        self.assertHolds(True, found=self.free, most=FAR, plan=plan(self.root, "chooser", "0 1"))
        self.assertHolds(False, found=self.free, most=ratio("5/2"), plan=Plan([]))

    def test_a_plan_with_views_that_the_game_has_not(self):
        more = [((("asked", 9, 2),), ratios("0 1")), ((), ratios("1"))]
        self.assertHolds(True, plan=Plan(self.found.plan.entries() + more))
        self.assertHolds(True, plan=Plan(more + self.found.plan.entries()))
        self.assertHolds(False, plan=Plan(more))

    def test_a_weight_that_is_changed(self):
        for first, second in (("1/2", "1/4"), ("1/2", "1/2"), ("1/3", "1/3"), ("2/3", "1/3"), ("1/3", "1/2"),
                              ("1", "2/3"), ("1/4", "1/6"), ("0", "1/3"), ("1/2", "0"), ("0", "0")):
            self.assertHolds(False, weights=weighted(self.root, ([1], first), ([2], second)))
        for factor in (Ratio(1) + TINY, Ratio(1) - TINY):
            self.assertHolds(False, weights=[(one, many * factor) for one, many in self.found.weights])
        self.assertHolds(False, weights=weighted(self.root, ([0], "1/2"), ([2], "1/3")))
        self.assertHolds(False, weights=weighted(self.root, ([1], "1/3"), ([2], "1/2")))

    def test_a_weight_of_0(self):
        zero = weighted(self.root, ([0], "0"))
        self.assertHolds(True, weights=self.found.weights + zero)
        self.assertHolds(True, weights=zero + self.found.weights)
        self.assertHolds(True, found=self.free, most=FAR, weights=zero * 3)

    def test_a_weight_below_0(self):
        self.assertHolds(False, weights=weighted(self.root, ([1], "3/2"), ([2], "1/3"), ([1], "-1")))
        self.assertHolds(False, weights=self.found.weights + weighted(self.root, ([0], "-1/90")))
        # This weight makes what point 21 tells less, and all other conditions are met.
        minus = weighted(self.root, ([0], "-1/2"))
        self.assertHolds(False, found=self.free, most=FAR, weights=minus)
        self.assertHolds(False, found=self.free, most=Ratio(3), weights=minus)

    def test_a_weight_that_is_left_out(self):
        for at in range(2):
            self.assertHolds(False, weights=self.found.weights[:at] + self.found.weights[at + 1:])

    def test_no_weights(self):
        self.assertHolds(False, weights=[])
        self.assertHolds(True, found=self.free, most=FAR, weights=[])
        self.assertHolds(True, root=tree("pay 3"), expected=Plan([]), found=Trusted(Ratio(3), Plan([]), []))
        self.assertHolds(False, root=tree("pay 3"), expected=Plan([]), found=Trusted(Ratio(2), Plan([]), []))

    def test_weights_that_need_not_be_there(self):
        root, nothing = tree("pay 3"), Plan([])
        found = Trusted(Ratio(3), nothing, [(nothing, Ratio(5))])
        self.assertHolds(True, root=root, expected=nothing, most=Ratio(0), found=found)
        self.assertHolds(False, root=root, expected=nothing, most=TINY, found=found)

    def test_a_coming_that_stands_twice(self):
        self.assertHolds(True, weights=weighted(self.root, ([1], "1/8"), ([2], "1/3"), ([1], "3/8")))
        self.assertHolds(True, weights=weighted(self.root, ([2], "1/30"), ([2], "3/10"), ([1], "1/2")))
        self.assertHolds(False, weights=self.found.weights * 2)
        self.assertHolds(False, weights=self.found.weights + weighted(self.root, ([1], "1/2")))
        self.assertHolds(False, weights=self.found.weights + weighted(self.root, ([2], "1/300")))

    def test_pairs_in_any_order(self):
        self.assertHolds(True, weights=self.found.weights[::-1])

    def test_plans_that_are_no_comings(self):
        root = tree(SEEN)
        right = pure(root, "comer", 0, 1)
        least = least_regret(root).value
        for expected in (right, plan(root, "comer", "1/3 2/3", "1/2 1/2")):
            for most in (least, least + ratio("1/8"), FAR):
                found = most_trusted(root, expected, most)
                asked = {"root": root, "expected": expected, "most": most, "found": found}
                self.assertHolds(True, **asked)
                self.assertHolds(True, weights=found.weights + [(right, Ratio(0))], **asked)
                for other in no_comings(root, right):
                    self.assertHolds(False, weights=[(other, Ratio(0))] + found.weights, **asked)
                    self.assertHolds(False, weights=found.weights + [(other, Ratio(0))], **asked)

    def test_plans_that_do_the_same_as_a_coming(self):
        # Each of these makes the moves of the coming for which it stands, but is not that coming.
        root = tree(SEEN)
        expected, most = pure(root, "comer", 0, 0), least_regret(root).value
        found = most_trusted(root, expected, most)
        self.assertGreater(len(found.weights), 0)
        for at, (coming, weight) in enumerate(found.weights):
            reverse = Plan(coming.entries()[::-1])
            weights = found.weights[:at] + [(reverse, weight)] + found.weights[at + 1:]
            self.assertHolds(False, root=root, expected=expected, most=most, found=found, weights=weights)

    def test_another_bound(self):
        self.assertHolds(False, most=self.most - TINY)
        self.assertHolds(False, most=self.most + TINY)
        for most in ("0", "-1", "6/5", "1", "3", "1000000"):
            self.assertHolds(False, most=ratio(most))
        self.assertHolds(True, found=self.free, most=Ratio(3))
        self.assertHolds(True, found=self.free, most=Ratio(3) + TINY)
        self.assertHolds(False, found=self.free, most=Ratio(3) - TINY)

    def test_another_expected_plan(self):
        for moves in (1, 2):
            self.assertHolds(False, expected=pure(self.root, "comer", moves))
        for lots in ("1/2 1/2 0", "99/100 0 1/100"):
            self.assertHolds(False, expected=plan(self.root, "comer", lots))
        self.assertHolds(True, expected=Plan([]))
        self.assertHolds(True, expected=plan(self.root, "comer", "0 1"))

    def test_another_game(self):
        for text in (MATCH.replace("pay + 1 x", "pay + 1 * 2 x"), MATCH.replace("pay + 1 x", "pay + x x"),
                     MATCH.replace("x 3", "x 4").replace("y 3", "y 4"), "pay 1", SEEN):
            self.assertHolds(False, root=tree(text))

    def test_below_the_least_regret_nothing_holds(self):
        found = least_regret(self.root)
        for weights in ([], found.weights, self.found.weights):
            self.assertHolds(False, most=ratio("6/5") - TINY, plan=found.plan, value=Ratio(0), weights=weights)

    def test_too_many_comings(self):
        many = [tree(SIXTY_FIVE), tree(SIXTY_FIVE + " pay x"), Move("comer", (("asked", 0, 65),), [End(1)] * 65)]
        for root in many:
            for found in (self.found, self.free, Trusted(Ratio(0), Plan([]), [(Plan([]), Ratio(-1))])):
                with self.assertRaises(TooLarge) as caught:
                    trust_holds(root, self.expected, self.most, found)
                self.assertEqual(caught.exception.what, "comings")
            for most in (Ratio(-1), Ratio(0), FAR):
                with self.assertRaises(TooLarge) as caught:
                    most_trusted(root, self.expected, most)
                self.assertEqual(caught.exception.what, "comings")
                self.assertNotIsInstance(caught.exception, NoPlan)

    def test_many_games(self):
        rng = random.Random(101)
        for text, root in [(text, tree(text)) for text in SMALL] + random_trees(102, 40, debts=True):
            if plans_in(root, "comer") > 16:
                continue
            expected = random_plan(root, "comer", rng)
            least = least_regret(root).value
            for most in (least, least + ratio("1/5"), FAR):
                found = most_trusted(root, expected, most)
                asked = {"root": root, "expected": expected, "most": most, "found": found}
                with self.subTest(text):
                    self.assertHolds(True, **asked)
                    self.assertHolds(False, value=found.value + Ratio(1, 1000), **asked)
                    self.assertHolds(False, value=found.value - Ratio(1, 1000), **asked)
                    if found.weights:
                        self.assertHolds(False, weights=[], **asked)
                    self.assertHolds(False, **{**asked, "most": least - TINY})
                    self.assertHolds(True, weights=found.weights + zeros(root), **asked)


def zeros(root):
    """The coming that makes move 0 everywhere, with the weight 0."""
    return [(pure(root, "comer", *[0 for _ in views_of(root, "comer")]), Ratio(0))]


def shown(found, expected, most):
    """All that was found, expected and bounded, as texts."""
    weights = [(told(one), str(many)) for one, many in found.weights]
    return str(found.value), told(found.plan), weights, told(expected), str(most)


if __name__ == "__main__":
    unittest.main()
