"""The bounds in one game: 400 nodes and 64 comings, asked of every function that works on comings."""

import random
import unittest
from fractions import Fraction

from lostleast.game import Game
from lostleast.least import greatest_share, holds, least_regret, regret_of, share_of, worst_for
from lostleast.paper import paper_lines, read_paper
from lostleast.plans import Answer, Plan, average, comings, hindsight
from lostleast.tree import ends_of, tree_of, views_of
from tests.helpers import choices, count, fraction, plan, slow_average, tree, with_ends

FULL = (
    "draw x 3 show comer x come y 4 choose a 4 choose b 7",
    "draw x 3 show comer x come y 4 choose a 8 choose b 3",
    "draw x 3 show comer x come y 4 show chooser mod y 2 choose a 4 choose b 7",
    "draw x 3 show comer x show chooser x come y 4 choose a 4 show chooser = a y choose b 7",
    "choose x 3 show comer x come y 4 choose a 4 choose b 7",
    "draw x 3 choose a 4 show comer x come y 4 show chooser y choose b 7",
)
PAY = " if = mod a 4 y pay + 9 * 3 b else pay mod * + 1 a * + 2 b * + 3 x + 4 y 17 end"


def full_trees():
    """Each game with the ends of its text, with small ends, and with large ends."""
    rng = random.Random(71)
    for text in FULL:
        root = tree("var x 9 var y 9 var a 9 var b 20 " + text + PAY)
        yield text, root
        yield text, with_ends(root, lambda: rng.randint(0, 3))
        yield text, with_ends(root, lambda: rng.randint(0, 65535))


class FullTest(unittest.TestCase):

    def test_bounds(self):
        for text, root in full_trees():
            with self.subTest(text):
                self.assertEqual(count(root), 400)
                self.assertEqual(len(comings(root)), 64)

    def test_plans_and_comings(self):
        for text, root in full_trees():
            lots = [" ".join([f"1/{many}"] * many) for _, many in views_of(root, "chooser")]
            chooser = plan(root, "chooser", *lots)
            some = comings(root)
            tops = [fraction(hindsight(root, coming)) for coming in some]
            paid = [slow_average(root, chooser, coming) for coming in some]
            differences = [top - one for top, one in zip(tops, paid)]
            with self.subTest(text):
                self.assertEqual([fraction(average(root, chooser, coming)) for coming in some], paid)
                self.assertEqual(fraction(regret_of(root, chooser)), max(differences))
                worst = some[differences.index(max(differences))]
                self.assertEqual(choices(worst_for(root, chooser)), choices(worst))
                self.assertEqual(fraction(share_of(root, chooser)), min(one / top for one, top in zip(paid, tops)))

    def test_least_regret_and_greatest_share(self):
        for text, root in full_trees():
            with self.subTest(text):
                self.assertGreaterEqual(min(ends_of(root)), 0)
                regret, share = least_regret(root), greatest_share(root)
                self.assertEqual(str(regret_of(root, regret.plan)), str(regret.value))
                self.assertEqual(str(share_of(root, share.plan)), str(share.value))
                self.assertEqual(sum(fraction(weight) for _, weight in regret.weights), 1)
                tops = {choices(coming): fraction(hindsight(root, coming)) for coming in comings(root)}
                told = sum(fraction(weight) * tops[choices(coming)] for coming, weight in regret.weights)
                self.assertEqual(told - fraction(Answer(root, regret.weights).paid), fraction(regret.value))
                told = sum(fraction(weight) * tops[choices(coming)] for coming, weight in share.weights)
                self.assertEqual(told, 1)
                self.assertEqual(str(Answer(root, share.weights).paid), str(share.value))
                self.assertLessEqual(fraction(share.value), Fraction(1))
                for found in (regret, share):
                    self.assertTrue(holds(root, found))
                    again = read_paper(root, paper_lines(root, found))
                    self.assertTrue(again.plan == found.plan and again.weights == found.weights)
                    self.assertEqual((again.kind, str(again.value)), (found.kind, str(found.value)))
                    self.assertTrue(holds(root, again))
                    again.plan = Plan([])
                    self.assertEqual(holds(root, again), not regret_or_share_differs(root, found))


class DeepTest(unittest.TestCase):

    def test_a_hundred_moves_one_behind_the_other(self):
        block = [("choose", "x", 2, 0), ("come", "x", 2, 1)]
        for at in range(2, 66, 2):
            block += [("choose", "x", 1, at), ("come", "x", 1, at + 1), ("draw", "x", 1)]
        block += [("draw", "x", 1)] * 2
        self.assertEqual(len(block), 100)
        root = tree_of(Game([("x", 2)], block + [("pay", ("number", 4))]))
        self.assertEqual(count(root), 1 + 2 * (1 + 2 * 99))
        self.assertEqual(len(views_of(root, "chooser")), 1 + 2 * 32)
        found = [least_regret(root), greatest_share(root)]
        self.assertEqual([str(one.value) for one in found], ["0", "1"])
        for one in found:
            self.assertTrue(holds(root, one))
            self.assertTrue(holds(root, read_paper(root, paper_lines(root, one))))
        self.assertEqual(str(average(root, Plan([]), Plan([]))), "4")
        self.assertEqual(str(Answer(root, []).paid), "0")


def regret_or_share_differs(root, found):
    """Whether making move 0 everywhere is worse than the plan that was found."""
    if found.kind == "regret":
        return fraction(regret_of(root, Plan([]))) > fraction(found.value)
    return fraction(share_of(root, Plan([]))) < fraction(found.value)


if __name__ == "__main__":
    unittest.main()
