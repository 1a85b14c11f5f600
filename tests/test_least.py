"""The least regret and the greatest share of a game (points 14 and 16), and what was found (point 17)."""

import random
import unittest
from fractions import Fraction

from lostleast.least import Found, greatest_share, holds, least_regret, regret_of, share_of
from lostleast.plans import Answer, Plan, comings, hindsight
from lostleast.ratio import Ratio
from lostleast.tree import End, Lot, Move, ends_of
from tests.games import SMALL, WITHOUT_SHARE, random_trees
from tests.helpers import (
    all_pure, assert_form, choices, fraction, slow_average, slow_best, slow_hindsights, told, tree, with_ends)

MATCH = "var x 3 var y 3 come x 3 choose y 3 if = x y pay + 1 x end"
# Eight moves of the comer, and as many answers, each of which is paid something else.
EIGHT = "var x 8 var y 8 come x 8 choose y 8 if = x y pay - 65535 * 7 x end"


class FoundTest(unittest.TestCase):

    def test_fields(self):
        plan, coming = Plan([]), Plan([])
        found = Found("share", Ratio(1, 2), plan, [(coming, Ratio(2))])
        self.assertEqual(found.kind, "share")
        self.assertEqual(str(found.value), "1/2")
        self.assertIs(found.plan, plan)
        self.assertIs(type(found.weights), list)
        self.assertEqual(found.weights, [(coming, Ratio(2))])
        found = Found(weights=[], plan=plan, value=Ratio(0), kind="regret")
        self.assertEqual((found.kind, found.weights), ("regret", []))

    def test_weights_is_a_copy(self):
        weights = [(Plan([]), Ratio(2))]
        found = Found("regret", Ratio(0), Plan([]), weights)
        weights.clear()
        self.assertEqual(len(found.weights), 1)
        found.weights.clear()
        self.assertEqual(weights, [])


class LeastTest(unittest.TestCase):

    def assertForm(self, root, found, kind):
        self.assertIsInstance(found, Found)
        self.assertEqual(found.kind, kind)
        assert_form(self, root, found)
        self.assertTrue(holds(root, found))

    def assertRegret(self, root, value=None):
        """That the least regret is right, found the slow way, and that it is the value."""
        found = least_regret(root)
        self.assertForm(root, found, "regret")
        regret = fraction(found.value)
        tops, every = slow_hindsights(root), all_pure(root, "comer")
        self.assertEqual(max(top - slow_average(root, found.plan, coming) for top, coming in zip(tops, every)), regret)
        self.assertEqual(str(regret_of(root, found.plan)), str(found.value))
        self.assertEqual(sum(fraction(weight) for _, weight in found.weights), 1)
        weighted = sum(fraction(weight) * tops[every.index(coming)] for coming, weight in found.weights)
        self.assertEqual(weighted - slow_best(root, found.weights), regret)
        for chooser in all_pure(root, "chooser")[:30]:
            self.assertGreaterEqual(fraction(regret_of(root, chooser)), regret)
        if value is not None:
            self.assertEqual(str(found.value), str(value))
        return found

    def assertShare(self, root, value=None):
        """That the greatest share is right, found the slow way, and that it is the value."""
        found = greatest_share(root)
        self.assertForm(root, found, "share")
        share = fraction(found.value)
        tops, every = slow_hindsights(root), all_pure(root, "comer")
        shares = [slow_average(root, found.plan, coming) / top for top, coming in zip(tops, every) if top != 0]
        self.assertEqual(min(shares), share)
        self.assertEqual(str(share_of(root, found.plan)), str(found.value))
        weighted = sum(fraction(weight) * tops[every.index(coming)] for coming, weight in found.weights)
        self.assertEqual(weighted, 1)
        self.assertEqual(slow_best(root, found.weights), share)
        for chooser in all_pure(root, "chooser")[:30]:
            self.assertLessEqual(fraction(share_of(root, chooser)), share)
        if value is not None:
            self.assertEqual(str(found.value), str(value))
        return found

    def test_one_of_two(self):
        root = tree("var x 2 var y 2 come x 2 choose y 2 if = x y pay 1 end")
        for found in (self.assertRegret(root, "1/2"), self.assertShare(root, "1/2")):
            self.assertEqual(told(found.plan), [((("asked", 1, 2),), "1/2 1/2")])
            self.assertEqual([choices(coming) for coming, _ in found.weights], [(0,), (1,)])
        self.assertEqual([str(weight) for _, weight in least_regret(root).weights], ["1/2", "1/2"])
        self.assertEqual([str(weight) for _, weight in greatest_share(root).weights], ["1/2", "1/2"])

    def test_one_of_three(self):
        found = self.assertRegret(tree(MATCH), "6/5")
        self.assertEqual(told(found.plan), [((("asked", 1, 3),), "0 2/5 3/5")])
        self.assertEqual([(choices(coming), str(weight)) for coming, weight in found.weights],
                         [((1,), "3/5"), ((2,), "2/5")])
        found = self.assertShare(tree(MATCH), "1/3")
        self.assertEqual(told(found.plan), [((("asked", 1, 3),), "1/3 1/3 1/3")])
        self.assertEqual([(choices(coming), str(weight)) for coming, weight in found.weights],
                         [((0,), "1/3"), ((1,), "1/6"), ((2,), "1/9")])

    def test_eight_moves(self):
        tops = [Fraction(65535 - 7 * x) for x in range(8)]
        found = self.assertRegret(tree(EIGHT), 7 / sum(1 / top for top in tops))
        self.assertGreater(found.value.num, 10 ** 30)
        self.assertEqual(len(found.weights), 8)
        found = self.assertShare(tree(EIGHT), "1/8")
        self.assertEqual([str(weight) for _, weight in found.weights], [f"1/{8 * top}" for top in tops])

    def test_eight_moves_that_are_seen(self):
        root = tree(EIGHT.replace("choose", "show chooser x choose").replace("y 8", "y 2"))
        self.assertRegret(root, 0)

    def test_regret_0(self):
        for text in ("", "pay 5", "take 5", "var x 3 draw x 3 pay x", "var x 3 come x 3 pay x",
                     "var x 3 choose x 3 pay x",
                     "var x 2 var y 2 come x 2 show chooser x choose y 2 if = x y pay 1 end"):
            with self.subTest(text):
                self.assertRegret(tree(text), 0)

    def test_share_1(self):
        for text in ("pay 5", "var x 3 draw x 3 pay x", "var x 3 come x 3 pay x", "var x 3 choose x 3 pay x",
                     "var x 2 var y 2 come x 2 show chooser x choose y 2 if = x y pay 1 end"):
            with self.subTest(text):
                self.assertShare(tree(text), 1)

    def test_no_moves(self):
        found = self.assertRegret(tree("pay 5"), 0)
        self.assertEqual([(coming.entries(), str(weight)) for coming, weight in found.weights], [([], "1")])
        self.assertEqual(found.plan.entries(), [])
        found = self.assertShare(tree("pay 5"), 1)
        self.assertEqual([(coming.entries(), str(weight)) for coming, weight in found.weights], [([], "1/5")])
        self.assertRegret(End(-3), 0)
        self.assertShare(End(3), 1)

    def test_ends_that_are_all_equal(self):
        for number in (0, 4):
            self.assertRegret(tree(f"var x 9 var y 9 come x 3 choose y 3 pay {number}"), 0)
            self.assertRegret(tree(f"var x 9 var y 9 choose y 3 come x 3 take {number}"), 0)
        self.assertShare(tree("var x 9 var y 9 come x 3 choose y 3 pay 4"), 1)

    def test_a_plan_without_lots_is_best(self):
        root = tree("var x 9 var y 9 come x 2 choose y 3 if = y 2 pay 5 else if = x y pay 6 end end")
        found = self.assertRegret(root, "1")
        self.assertEqual(choices(found.plan), (2,))
        found = self.assertShare(root, "5/6")
        self.assertEqual(choices(found.plan), (2,))

    def test_renting_or_buying(self):
        # Some days of ice come; renting costs 1 a day, buying 3 once. Paid is what is left of 8.
        text = ("var d 9 var b 9 var t 9 pay 8 come d 6 choose b 6 "
                "if < d b take d else take + b 3 end")
        self.assertRegret(tree(text))
        self.assertShare(tree(text))

    def test_negative_ends(self):
        self.assertRegret(tree("var x 2 var y 2 come x 2 choose y 2 if = x y take 1 end"), "1/2")
        self.assertRegret(tree("var x 2 var y 2 come x 2 choose y 2 take 100 if = x y take 3 else take x end"))
        self.assertRegret(tree("var x 9 var y 9 choose y 3 come x 3 if < x y pay x else take y end"))

    def test_draws(self):
        text = "var x 9 var y 9 var z 9 draw z {} come x 2 choose y 2 if = x y pay + 1 z else pay < z 1 end"
        for many in (3, 7):
            self.assertRegret(tree(text.format(many)))
            self.assertShare(tree(text.format(many)))
        root = tree("var x 9 var y 9 var z 9 draw z 3 if = z 2 draw z 5 come x 2 choose y 2 if = x y pay + 1 z end end")
        self.assertRegret(root, "1/2")
        self.assertShare(root, "1/2")

    def test_the_comer_sees_what_the_chooser_does_not(self):
        text = "var x 9 var y 9 var z 9 draw z 4 show comer z come x 2 choose y 3 pay mod * + 1 y + x * 3 z 7"
        self.assertRegret(tree(text))
        self.assertShare(tree(text))

    def test_comings_of_hindsight_0(self):
        root = tree("var x 9 var y 9 come x 4 choose y 3 if = y 0 pay / x 2 else pay * x - y 1 end")
        self.assertRegret(root)
        found = self.assertShare(root)
        self.assertNotIn((0,), [choices(coming) for coming, _ in found.weights])

    def test_moves_with_one_part(self):
        root = tree("var x 9 var y 9 come x 1 choose y 1 come x 2 choose y 2 choose x 1 if = x y pay 4 end pay y")
        self.assertRegret(root)
        self.assertShare(root)

    def test_many_comings(self):
        for text in ("var x 9 var y 9 draw y 2 show comer y come x 8 choose y 3 pay mod * + 1 x + 2 * 3 y 7",
                     "var x 9 var y 9 draw y 6 show comer y come x 2 pay y choose y 3 pay mod * + 1 x + 2 * 3 y 5",
                     "var x 9 var y 9 draw y 3 show comer y come x 4 choose y 4 if = x y pay 7 else pay y end"):
            with self.subTest(text):
                root = tree(text)
                self.assertEqual(len(comings(root)), 64)
                self.assertRegret(root)
                self.assertShare(root)

    def test_several_moves_of_the_chooser(self):
        text = ("var x 9 var y 9 choose y 2 come x 3 choose x 2 show chooser y choose y 2 "
                "pay mod + * 5 x * 3 + y 1 7 if = x y pay 2 end")
        self.assertRegret(tree(text))
        self.assertShare(tree(text))

    def test_large_and_small_ends(self):
        text = "var x 9 var y 9 come x 3 choose y 3 if = x y pay 65535 pay 65535 pay 65521 else pay < x y end"
        self.assertRegret(tree(text))
        self.assertShare(tree(text))

    def test_parts_with_many_digits(self):
        view, turn = (("asked", 1, 4),), (("asked", 0, 4),)
        paid = [[10 ** 12 + 7 * x ** 8 if x == y else 10 ** (x + y) + 13 * y for y in range(4)] for x in range(4)]
        root = Move("comer", turn, [Move("chooser", view, [End(end) for end in row]) for row in paid])
        found = self.assertRegret(root)
        self.assertGreater(found.value.den, 10 ** 12)
        self.assertShare(root)

    def test_both_of_one_tree_in_both_orders(self):
        for text in (MATCH, EIGHT):
            root, other = tree(text), tree(text)
            regret, share = least_regret(root), greatest_share(root)
            share_first, regret_second = greatest_share(other), least_regret(other)
            self.assertEqual(str(regret.value), str(regret_second.value))
            self.assertEqual(str(share.value), str(share_first.value))
            for found in (regret, share, share_first, regret_second):
                self.assertTrue(holds(root, found))

    def test_asked_again_after_changes(self):
        root = tree(MATCH)
        found = least_regret(tree=root)
        found.weights.clear()
        self.assertEqual(len(least_regret(root).weights), 2)
        found = greatest_share(tree=root)
        found.weights.clear()
        self.assertEqual(len(greatest_share(root).weights), 3)

    def test_trees_made_by_hand(self):
        one, two = (("asked", 0, 2),), (("asked", 1, 2),)
        first, second = Move("chooser", two, [End(6), End(0)]), Move("chooser", two, [End(0), End(2)])
        root = Lot([Move("comer", one, [first, second]), End(4)])
        self.assertRegret(root, "3/4")
        self.assertShare(root)

    def test_small_games(self):
        for text in SMALL:
            with self.subTest(text):
                root = tree(text)
                self.assertRegret(root)
                if text not in WITHOUT_SHARE and min(ends_of(root)) >= 0:
                    self.assertShare(root)

    def test_random_games(self):
        for text, root in random_trees(41, 80, most_plans=32):
            with self.subTest(text):
                self.assertRegret(root)
                if max(ends_of(root)) > 0:
                    self.assertShare(root)
        for text, root in random_trees(42, 40, most_plans=32, debts=True):
            with self.subTest(text):
                self.assertRegret(root)

    def test_other_ends(self):
        rng = random.Random(44)
        values = set()
        for text, root in [(text, tree(text)) for text in SMALL if len(text) > 60] * 2 + random_trees(45, 60, 32):
            for high in (1, 3, 20, 10 ** 9):
                with self.subTest((text, high)):
                    values.add(str(self.assertRegret(with_ends(root, lambda: rng.randint(-high, high))).value))
                    other = with_ends(root, lambda: max(0, rng.randint(-high, high)))
                    if max(slow_hindsights(other)) > 0:
                        values.add(str(self.assertShare(other).value))
        self.assertGreater(len(values), 100)

    def test_the_value_is_what_the_functions_of_plans_tell(self):
        for text, root in random_trees(43, 40):
            found = least_regret(root)
            lost = Ratio(0) - Answer(root, found.weights).paid
            for coming, weight in found.weights:
                lost = lost + weight * hindsight(root, coming)
            self.assertEqual(str(lost), str(found.value))


if __name__ == "__main__":
    unittest.main()
