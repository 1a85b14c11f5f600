"""When a found value holds (point 17): each single condition, met and not met."""

import unittest

from lostleast.errors import NoShare, TooLarge
from lostleast.least import Found, greatest_share, holds, least_regret
from lostleast.plans import Plan
from lostleast.ratio import Ratio
from lostleast.tree import End, Move, views_of
from tests.games import SMALL, WITHOUT_SHARE, random_trees
from tests.helpers import no_comings, plan, pure, ratio, ratios, told, tree

MATCH = "var x 3 var y 3 come x 3 choose y 3 if = x y pay + 1 x end"
# Two views of the comer, who sees what is drawn; the chooser sees nothing.
SEEN = "var x 2 var y 2 var z 2 draw z 2 show comer z come x 2 choose y 2 if = x y pay + 1 z end"
TINY = Ratio(1, 10 ** 30)


def weighted(root, *pairs):
    """Pairs of a coming, told by its moves, and a weight, told by a text."""
    return [(pure(root, "comer", *moves), ratio(weight)) for moves, weight in pairs]


class HoldsTest(unittest.TestCase):

    def setUp(self):
        self.root = tree(MATCH)
        self.regret = Found("regret", ratio("6/5"), plan(self.root, "chooser", "0 2/5 3/5"),
                            weighted(self.root, ([1], "3/5"), ([2], "2/5")))
        self.share = Found("share", ratio("1/3"), plan(self.root, "chooser", "1/3 1/3 1/3"),
                           weighted(self.root, ([0], "1/3"), ([1], "1/6"), ([2], "1/9")))

    def assertHolds(self, expected, found, root=None, **fields):
        """That what was found holds or not if some of its fields are other ones, and that it stays as it is."""
        made = Found(fields.get("kind", found.kind), fields.get("value", found.value),
                     fields.get("plan", found.plan), fields.get("weights", found.weights))
        kept = (made.kind, str(made.value), told(made.plan), [(told(one), str(many)) for one, many in made.weights])
        self.assertIs(holds(root or self.root, made), expected)
        self.assertEqual(kept, (made.kind, str(made.value), told(made.plan),
                                [(told(one), str(many)) for one, many in made.weights]))

    def test_what_holds(self):
        self.assertHolds(True, self.regret)
        self.assertHolds(True, self.share)
        self.assertIs(holds(tree=self.root, found=self.regret), True)

    def test_value(self):
        self.assertHolds(False, self.regret, value=ratio("6/5") - TINY)
        self.assertHolds(False, self.regret, value=ratio("6/5") + TINY)
        self.assertHolds(False, self.share, value=ratio("1/3") - TINY)
        self.assertHolds(False, self.share, value=ratio("1/3") + TINY)
        for value in ("0", "1", "-6/5", "-1/3", "2"):
            self.assertHolds(False, self.regret, value=ratio(value))
            self.assertHolds(False, self.share, value=ratio(value))

    def test_kind(self):
        self.assertHolds(False, self.regret, kind="share")
        self.assertHolds(False, self.share, kind="regret")
        self.assertHolds(False, self.regret, kind="Regret")
        self.assertHolds(False, self.share, kind="")

    def test_the_other_kind_where_all_else_fits(self):
        # Regret 1/2 and share 1/2 are shown by the same plan and weights.
        root = tree("var x 2 var y 2 come x 2 choose y 2 if = x y pay 1 end")
        found = least_regret(root)
        self.assertHolds(True, found, root=root, kind="share")
        self.assertHolds(True, greatest_share(root), root=root, kind="regret")
        # The regret 0 of a game without moves is no share.
        self.assertHolds(False, least_regret(tree("pay 1")), root=tree("pay 1"), kind="share")

    def test_plan(self):
        for lots in ("1 0 0", "0 1/2 1/2", "1/5 2/5 2/5", "1/3 1/3 1/3", "0 0 1", "0 1/5 4/5"):
            self.assertHolds(False, self.regret, plan=plan(self.root, "chooser", lots))
        for lots in ("1 0 0", "0 1/2 1/2", "1/4 1/4 1/2", "1/3 1/2 1/6", "0 0 1"):
            self.assertHolds(False, self.share, plan=plan(self.root, "chooser", lots))

    def test_several_plans_hold(self):
        # The chooser's second move pays nothing, whatever it is.
        root = tree("var x 2 var y 2 come x 2 choose y 2 if = x y pay 1 end choose y 2")
        for last in ("1 0", "1/7 6/7", "0 1"):
            made = plan(root, "chooser", "1/2 1/2", last, "1/2 1/2")
            for found in (least_regret(root), greatest_share(root)):
                self.assertHolds(True, found, root=root, plan=made)

    def test_a_plan_that_leaves_views_out(self):
        self.assertHolds(False, self.regret, plan=Plan([]))
        self.assertHolds(False, self.share, plan=Plan([]))
        root = tree("var x 2 var y 2 come x 2 choose y 2 if = y 0 pay 2 else pay x end")
        for found in (least_regret(root), greatest_share(root)):
            self.assertHolds(True, found, root=root, plan=Plan([]))
            self.assertHolds(True, found, root=root, plan=plan(root, "chooser", "0 1/2 1/2"))
            self.assertHolds(False, found, root=root, plan=plan(root, "chooser", "0 1"))

    def test_a_plan_with_views_that_the_game_has_not(self):
        more = [((("asked", 9, 2),), ratios("0 1")), ((), ratios("1"))]
        for found in (self.regret, self.share):
            self.assertHolds(True, found, plan=Plan(found.plan.entries() + more))
            self.assertHolds(True, found, plan=Plan(more + found.plan.entries()))
            self.assertHolds(False, found, plan=Plan(more))

    def test_a_weight_that_is_changed(self):
        self.assertHolds(False, self.regret, weights=weighted(self.root, ([1], "1/2"), ([2], "2/5")))
        self.assertHolds(False, self.regret, weights=weighted(self.root, ([1], "1/2"), ([2], "1/2")))
        self.assertHolds(False, self.regret, weights=weighted(self.root, ([1], "2/5"), ([2], "3/5")))
        self.assertHolds(False, self.regret, weights=weighted(self.root, ([0], "3/5"), ([2], "2/5")))
        self.assertHolds(False, self.share, weights=weighted(self.root, ([0], "1/3"), ([1], "1/6"), ([2], "1/8")))
        self.assertHolds(False, self.share, weights=weighted(self.root, ([0], "1/6"), ([1], "1/4"), ([2], "1/9")))
        self.assertHolds(False, self.share, weights=weighted(self.root, ([0], "1/3"), ([1], "1/9"), ([2], "4/27")))

    def test_weights_that_add_up_to_something_else(self):
        # All weights twice or half as large: the sums are twice or half as large, too.
        for factor in (Ratio(2), Ratio(1, 2), Ratio(1) + TINY, Ratio(1) - TINY):
            for found in (self.regret, self.share):
                self.assertHolds(False, found, weights=[(one, many * factor) for one, many in found.weights])

    def test_weights_of_regret_that_add_up_to_more_and_show_more(self):
        weights = weighted(self.root, ([1], "6/5"), ([2], "4/5"))
        self.assertHolds(False, self.regret, weights=weights)
        weights = weighted(self.root, ([1], "3/5"), ([2], "2/5"), ([0], "1/100"))
        self.assertHolds(False, self.regret, weights=weights)
        root = tree("var x 2 var y 2 come x 2 choose y 2 if = x y pay 1 end")
        made = plan(root, "chooser", "1/2 1/2")
        for second, first in (("1", "1"), ("1/2", "3/4"), ("1/2", "1/4")):
            weights = weighted(root, ([0], first), ([1], second))
            self.assertHolds(False, Found("regret", ratio("1/2"), made, weights), root=root)
        weights = weighted(root, ([0], "1/2"), ([1], "1/2"))
        self.assertHolds(True, Found("regret", ratio("1/2"), made, weights), root=root)

    def test_weights_of_share_whose_sum_is_less_and_that_show_less(self):
        weights = weighted(self.root, ([0], "1/3"), ([1], "1/6"))
        self.assertHolds(False, self.share, weights=weights)
        weights = weighted(self.root, ([0], "1/4"), ([1], "1/8"), ([2], "1/12"))
        self.assertHolds(False, self.share, weights=weights)

    def test_a_weight_of_0(self):
        more = weighted(self.root, ([0], "0"))
        self.assertHolds(True, self.regret, weights=self.regret.weights + more)
        self.assertHolds(True, self.regret, weights=more + self.regret.weights)
        self.assertHolds(True, self.share, weights=self.share.weights + more)
        self.assertHolds(False, self.regret, weights=weighted(self.root, ([1], "3/5"), ([2], "0")))

    def test_a_weight_below_0(self):
        minus = weighted(self.root, ([1], "8/5"), ([2], "2/5"), ([1], "-1"))
        self.assertHolds(False, self.regret, weights=minus)
        minus = weighted(self.root, ([0], "4/3"), ([1], "1/6"), ([2], "1/9"), ([0], "-1"))
        self.assertHolds(False, self.share, weights=minus)
        self.assertHolds(False, self.regret, weights=weighted(self.root, ([0], "-1/5"), ([1], "3/5"), ([2], "3/5")))
        self.assertHolds(False, self.share, weights=self.share.weights + weighted(self.root, ([0], "-1/90")))

    def test_a_weight_that_is_left_out(self):
        for found in (self.regret, self.share):
            for at in range(len(found.weights)):
                self.assertHolds(False, found, weights=found.weights[:at] + found.weights[at + 1:])

    def test_no_weights(self):
        for found in (self.regret, self.share):
            self.assertHolds(False, found, weights=[])
            self.assertHolds(False, found, weights=[], value=Ratio(0))
        root = tree("pay 1")
        self.assertHolds(False, Found("regret", Ratio(0), Plan([]), []), root=root)
        self.assertHolds(False, Found("share", Ratio(1), Plan([]), []), root=root)

    def test_a_coming_that_stands_twice(self):
        self.assertHolds(True, self.regret, weights=weighted(self.root, ([1], "1/5"), ([2], "2/5"), ([1], "2/5")))
        self.assertHolds(False, self.regret, weights=weighted(self.root, ([1], "3/5"), ([2], "2/5"), ([1], "3/5")))
        self.assertHolds(True, self.share, weights=weighted(
            self.root, ([2], "1/10"), ([0], "1/3"), ([1], "1/6"), ([2], "1/90")))
        self.assertHolds(False, self.share, weights=self.share.weights + self.share.weights)

    def test_pairs_in_any_order(self):
        for found in (self.regret, self.share):
            self.assertHolds(True, found, weights=found.weights[::-1])

    def test_plans_that_are_no_comings(self):
        root = tree(SEEN)
        right = pure(root, "comer", 0, 1)
        for found in (least_regret(root), greatest_share(root)):
            self.assertHolds(True, found, root=root)
            self.assertHolds(True, found, root=root, weights=found.weights + [(right, Ratio(0))])
            for other in no_comings(root, right):
                for weights in ([(other, Ratio(0))] + found.weights, found.weights + [(other, Ratio(0))]):
                    self.assertHolds(False, found, root=root, weights=weights)

    def test_plans_that_do_the_same_as_a_coming(self):
        # Each of these makes the moves of the coming for which it stands, but is not that coming.
        root = tree(SEEN)
        for found in (least_regret(root), greatest_share(root)):
            for at, (coming, weight) in enumerate(found.weights):
                reverse = Plan(coming.entries()[::-1])
                weights = found.weights[:at] + [(reverse, weight)] + found.weights[at + 1:]
                self.assertHolds(False, found, root=root, weights=weights)
        zero = [(Plan([]), ratio("1/2")), (pure(tree(MATCH), "comer", 1), ratio("1/2"))]
        root = tree("var x 2 var y 2 come x 2 choose y 2 if = x y pay 1 end")
        made = plan(root, "chooser", "1/2 1/2")
        self.assertHolds(False, Found("regret", ratio("1/2"), made, zero), root=root)

    def test_lots_are_equal_by_their_value(self):
        root = tree("var x 2 var y 2 come x 2 choose y 2 if = x y pay 1 end")
        ((view, _),) = views_of(root, "comer")
        again = [(Plan([(view, [Ratio(4, 4), Ratio(0, 7)])]), ratio("1/2")),
                 (Plan([(view, (Ratio(0), Ratio(1)))]), ratio("2/4"))]
        for found in (least_regret(root), greatest_share(root)):
            self.assertHolds(True, found, root=root, weights=again)

    def test_an_end_below_0_for_a_share(self):
        # The end of -1 is never met by plan or weights, and all other conditions are met.
        root = tree("var x 2 choose x 2 if x take 1 else pay 5 end")
        made = Found("share", Ratio(1), pure(root, "chooser", 0), [(Plan([]), ratio("1/5"))])
        self.assertHolds(False, made, root=root)
        self.assertHolds(True, made, root=tree("var x 2 choose x 2 if x else pay 5 end"))
        made = Found("regret", Ratio(0), pure(root, "chooser", 0), [(Plan([]), Ratio(1))])
        self.assertHolds(True, made, root=root)

    def test_all_hindsights_are_0(self):
        root = tree("var x 2 come x 2")
        for value in (0, 1):
            self.assertHolds(False, Found("share", Ratio(value), Plan([]), weighted(root, ([0], "1"))), root=root)
            self.assertHolds(False, Found("share", Ratio(value), Plan([]), []), root=root)
        self.assertHolds(True, Found("regret", Ratio(0), Plan([]), weighted(root, ([0], "1"))), root=root)

    def test_games_without_moves(self):
        for text in ("", "pay 3", "take 3"):
            root = tree(text)
            one = [(Plan([]), Ratio(1))]
            self.assertHolds(True, Found("regret", Ratio(0), Plan([]), one), root=root)
            self.assertHolds(False, Found("regret", Ratio(0), Plan([]), one * 2), root=root)
            self.assertHolds(False, Found("regret", Ratio(1), Plan([]), one), root=root)
            self.assertHolds(False, Found("regret", Ratio(-1), Plan([]), one), root=root)
        self.assertHolds(True, Found("share", Ratio(1), Plan([]), [(Plan([]), ratio("1/3"))]), root=tree("pay 3"))

    def test_what_was_found_for_another_game(self):
        root = tree(MATCH.replace("pay + 1 x", "pay + 1 * 2 x"))
        for found in (self.regret, self.share):
            self.assertHolds(False, found, root=root)

    def test_a_regret_for_each_coming_counts(self):
        # The plan has the regret 1 only with the last coming, to which no weight belongs.
        root = tree("var x 9 var y 2 come x 3 choose y 2 if = x 2 if y pay 1 end else pay 4 end")
        zero = weighted(root, ([0], "1"))
        self.assertHolds(False, Found("regret", Ratio(0), pure(root, "chooser", 0), zero), root=root)
        self.assertHolds(True, Found("regret", Ratio(0), pure(root, "chooser", 1), zero), root=root)
        quarter = weighted(root, ([1], "1/4"))
        self.assertHolds(False, Found("share", Ratio(1), pure(root, "chooser", 0), quarter), root=root)
        self.assertHolds(True, Found("share", Ratio(1), pure(root, "chooser", 1), quarter), root=root)

    def test_more_than_64_comings(self):
        root = tree("var x 9 come x 8 come x 8")
        wrong = [(Plan([]), Ratio(-1))]
        others = [Found("regret", Ratio(0), Plan([]), wrong), Found("", Ratio(0), Plan([]), [])]
        for found in [self.regret, self.share] + others:
            with self.assertRaises(TooLarge) as caught:
                holds(root, found)
            self.assertEqual(caught.exception.what, "comings")
        with self.assertRaises(TooLarge):
            holds(Move("comer", (("asked", 0, 65),), [End(0)] * 65), self.regret)

    def test_many_games(self):
        for text, root in [(text, tree(text)) for text in SMALL] + random_trees(51, 60):
            with self.subTest(text):
                found = [least_regret(root)]
                if text not in WITHOUT_SHARE and found_share(root):
                    found.append(greatest_share(root))
                for one in found:
                    self.assertHolds(True, one, root=root)
                    self.assertHolds(False, one, root=root, value=one.value + Ratio(1, 1000))
                    self.assertHolds(False, one, root=root, value=one.value - Ratio(1, 1000))
                    self.assertHolds(False, one, root=root, weights=one.weights[1:])


def found_share(root):
    try:
        greatest_share(root)
    except NoShare:
        return False
    return True


if __name__ == "__main__":
    unittest.main()
