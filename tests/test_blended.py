"""Lots over plans (point 23)."""

import random
import unittest
from fractions import Fraction

from lostleast.plans import Plan, average, sure
from lostleast.ratio import Ratio
from lostleast.tree import End, Lot, Move, views_of
from lostleast.trust import blended
from tests.games import SMALL, plans_in, random_trees
from tests.helpers import (
    all_pure, choices, fraction, plan, pure, ratio, ratios, slow_average, told, tree)
from tests.test_average import random_plan

# The chooser has three views: the first move, and the second one behind each first move.
TWICE = "var x 9 var y 9 choose x 2 come y 2 choose y 2 pay + * 2 x y"
# Behind its first move the chooser is shown nothing and moves twice more.
ROW = "var x 9 var y 9 choose x 2 choose x 2 choose x 2 come y 2 if = x y pay 3 end"


def pairs(*rows):
    """Pairs of a plan and a weight that is told by a text."""
    return [(made, ratio(weight)) for made, weight in rows]


class BlendedTest(unittest.TestCase):

    def assertBlended(self, root, rows, *lots):
        """That a lot over plans has these lots at the views, in order, and is paid like its plans."""
        found = blended(root, rows)
        self.assertIsInstance(found, Plan)
        self.assertEqual([(view, len(lots)) for view, lots in found.entries()], views_of(root, "chooser"))
        if lots:
            self.assertEqual([text for _, text in told(found)], list(lots))
        for comer in all_pure(root, "comer")[:20]:
            self.assertPaidAlike(root, rows, found, comer)
        return found

    def assertPaidAlike(self, root, rows, found, comer):
        mean = sum((fraction(weight) * slow_average(root, made, comer) for made, weight in rows), Fraction(0))
        self.assertEqual(slow_average(root, found, comer), mean)
        self.assertEqual(fraction(average(root, found, comer)), mean)

    def test_one_plan(self):
        root = tree(TWICE)
        whole = plan(root, "chooser", "1/3 2/3", "1/4 3/4", "1 0")
        self.assertBlended(root, pairs((whole, "1")), "1/3 2/3", "1/4 3/4", "1 0")

    def test_two_plans_at_one_view(self):
        root = tree("var x 9 var y 9 come x 2 choose y 3 pay * x y")
        first, second = plan(root, "chooser", "0 1 0"), plan(root, "chooser", "1/2 0 1/2")
        self.assertBlended(root, pairs((first, "1/3"), (second, "2/3")), "1/3 1/3 1/3")
        self.assertBlended(root, pairs((second, "1/4"), (first, "3/4")), "1/8 3/4 1/8")

    def test_several_plans(self):
        root = tree(TWICE)
        rows = [pure(root, "chooser", *moves) for moves in ((0, 1, 0), (0, 0, 1), (1, 1, 0), (1, 0, 1))]
        # Behind the move 0 only the first two plans count, behind the move 1 the last two.
        self.assertBlended(root, pairs(*zip(rows, ["1/6", "1/3", "1/8", "3/8"])), "1/2 1/2", "2/3 1/3", "1/4 3/4")

    def test_earlier_moves_that_some_plans_never_make(self):
        root = tree(TWICE)
        rows = pairs((pure(root, "chooser", 0, 1, 0), "1/3"), (pure(root, "chooser", 1, 0, 1), "2/3"))
        self.assertBlended(root, rows, "1/3 2/3", "0 1", "0 1")

    def test_the_chance_is_the_one_behind_the_earlier_moves(self):
        root = tree(TWICE)
        mixed = plan(root, "chooser", "1/2 1/2", "1 0", "1 0")
        # Of the ways behind move 0, 1/3 comes from the first plan and 2/3 * 1/2 from the other one.
        rows = pairs((pure(root, "chooser", 0, 1, 1), "1/3"), (mixed, "2/3"))
        self.assertBlended(root, rows, "2/3 1/3", "1/2 1/2", "1 0")
        rows = pairs((plan(root, "chooser", "1/5 4/5", "0 1", "1/2 1/2"), "1/2"), (mixed, "1/2"))
        self.assertBlended(root, rows, "7/20 13/20", "5/7 2/7", "9/13 4/13")

    def test_views_that_are_never_reached(self):
        root = tree(TWICE)
        self.assertBlended(root, pairs((pure(root, "chooser", 0, 1, 1), "1")), "1 0", "0 1", "1 0")
        self.assertBlended(root, pairs((pure(root, "chooser", 1, 1, 1), "1")), "0 1", "1 0", "0 1")
        root = tree(TWICE.replace("y 2 pay", "y 3 pay"))
        self.assertBlended(root, pairs((plan(root, "chooser", "0 1", "0 1/2 1/2", "0 1/2 1/2"), "1")),
                           "0 1", "1 0 0", "0 1/2 1/2")

    def test_views_behind_views_that_are_never_reached(self):
        root = tree(ROW)
        self.assertEqual(len(views_of(root, "chooser")), 7)
        self.assertBlended(root, pairs((pure(root, "chooser", 0, 1, 1, 1, 1, 1, 1), "1")),
                           "1 0", "0 1", "1 0", "0 1", "1 0", "1 0", "1 0")

    def test_weights_that_are_0(self):
        root = tree(TWICE)
        one, other = pure(root, "chooser", 0, 1, 0), pure(root, "chooser", 1, 1, 1)
        self.assertBlended(root, pairs((other, "0"), (one, "1"), (other, "0")), "1 0", "0 1", "1 0")
        self.assertBlended(root, pairs((one, "1/2"), (Plan([]), "0"), (other, "1/2")), "1/2 1/2", "0 1", "0 1")

    def test_one_plan_twice(self):
        root = tree(TWICE)
        one, other = pure(root, "chooser", 0, 1, 0), pure(root, "chooser", 1, 1, 1)
        self.assertBlended(root, pairs((one, "1/6"), (other, "1/2"), (one, "1/3")), "1/2 1/2", "0 1", "0 1")
        self.assertBlended(root, pairs((one, "1/6"), (one, "5/6")), "1 0", "0 1", "1 0")

    def test_views_of_shown_values_only(self):
        root = tree("var x 9 var y 9 come x 3 show chooser x choose y 2 pay * x y")
        self.assertEqual([view[0] for view, _ in views_of(root, "chooser")],
                         [("shown", 0), ("shown", 1), ("shown", 2)])
        rows = pairs((pure(root, "chooser", 0, 1, 1), "1/2"), (plan(root, "chooser", "1/3 2/3", "0 1", "1 0"), "1/2"))
        self.assertBlended(root, rows, "2/3 1/3", "0 1", "1/2 1/2")

    def test_shown_values_between_moves(self):
        root = tree("var x 9 var y 9 choose x 2 come y 2 show chooser y choose y 2 pay + x y")
        self.assertEqual(len(views_of(root, "chooser")), 5)
        rows = pairs((pure(root, "chooser", 0, 1, 0, 1, 0), "1/4"), (pure(root, "chooser", 0, 0, 0, 0, 1), "1/4"),
                     (pure(root, "chooser", 1, 0, 0, 1, 1), "1/2"))
        self.assertBlended(root, rows, "1/2 1/2", "1/2 1/2", "1 0", "0 1", "0 1")

    def test_several_views_in_a_row(self):
        root = tree(ROW)
        rows = [pure(root, "chooser", *moves) for moves in ((0, 0, 0, 0, 0, 0, 0), (0, 1, 0, 1, 0, 0, 0),
                                                            (1, 0, 0, 0, 0, 1, 1), (1, 0, 0, 0, 1, 1, 0))]
        self.assertEqual([len(view) for view, _ in views_of(root, "chooser")], [1, 3, 5, 5, 3, 5, 5])
        self.assertBlended(root, pairs(*zip(rows, ["1/8", "1/8", "1/4", "1/2"])),
                           "1/4 3/4", "1/2 1/2", "1 0", "0 1", "1/3 2/3", "0 1", "1 0")

    def test_plans_that_leave_views_out(self):
        root = tree(TWICE)
        first, behind, other = [view for view, _ in views_of(root, "chooser")]
        elsewhere = (("shown", 9), ("asked", 9, 2))
        some = Plan([(behind, ratios("0 1"))])
        self.assertBlended(root, pairs((Plan([]), "1/2"), (some, "1/2")), "1 0", "1/2 1/2", "1 0")
        wrong = Plan([(first, ratios("0 0 1")), (behind, ratios("0 1")), (other, ratios("1"))])
        self.assertBlended(root, pairs((Plan([]), "1/4"), (wrong, "3/4")), "1 0", "1/4 3/4", "1 0")
        more = Plan([(elsewhere, ratios("0 1")), (first, ratios("1/2 1/2"))])
        self.assertBlended(root, pairs((more, "1")), "1/2 1/2", "1 0", "1 0")

    def test_games_without_moves_of_the_chooser(self):
        for text in ("", "pay 4", "var x 9 come x 3 pay x"):
            root = tree(text)
            self.assertBlended(root, pairs((Plan([]), "1/2"), (Plan([((), ratios("1"))]), "1/2")))
            self.assertEqual(blended(root, pairs((Plan([]), "1"))).entries(), [])

    def test_moves_with_one_part(self):
        root = tree("var x 9 choose x 1 choose x 2 choose x 1 pay x")
        rows = pairs((pure(root, "chooser", 0, 1, 0, 0), "1/3"), (pure(root, "chooser", 0, 0, 0, 0), "2/3"))
        self.assertBlended(root, rows, "1", "2/3 1/3", "1", "1")

    def test_draws_and_one_view_at_several_nodes(self):
        root = tree("var x 9 var y 9 draw x 3 come y 2 choose y 2 if < x 2 choose x 2 end pay + x y")
        rows = [(made, Ratio(1, len(all_pure(root, "chooser")))) for made in all_pure(root, "chooser")]
        self.assertBlended(root, rows, *["1/2 1/2"] * len(views_of(root, "chooser")))

    def test_trees_made_by_hand(self):
        one, two = (("asked", 0, 2),), (("asked", 1, 3),)
        root = Lot([Move("chooser", one, [End(6), End(0)]), Move("chooser", two, [End(0), End(2), End(5)])])
        rows = pairs((pure(root, "chooser", 0, 2), "1/3"), (pure(root, "chooser", 1, 1), "2/3"))
        self.assertBlended(root, rows, "1/3 2/3", "0 2/3 1/3")

    def test_weights_with_many_digits(self):
        root = tree(TWICE)
        many = 10 ** 59 + 7
        rows = [(pure(root, "chooser", 0, 1, 0), Ratio(1, many)),
                (pure(root, "chooser", 0, 0, 0), Ratio(many - 1, many))]
        self.assertBlended(root, rows, "1 0", f"{many - 1}/{many} 1/{many}", "1 0")

    def test_several_lots_and_trees_in_turn(self):
        root, other = tree(TWICE), tree(TWICE.replace("choose y 2", "choose y 3"))
        one, two = pure(root, "chooser", 0, 1, 0), pure(root, "chooser", 1, 0, 1)
        for _ in range(2):
            self.assertBlended(root, pairs((one, "1/2"), (two, "1/2")), "1/2 1/2", "0 1", "0 1")
            self.assertBlended(other, pairs((one, "1/2"), (two, "1/2")), "1/2 1/2", "1 0 0", "1 0 0")
            self.assertBlended(root, pairs((one, "1/9"), (two, "8/9")), "1/9 8/9", "0 1", "0 1")

    def test_the_list_and_the_plans_stay(self):
        root = tree(TWICE)
        one, two = pure(root, "chooser", 0, 1, 0), plan(root, "chooser", "1/2 1/2", "1 0", "1/3 2/3")
        rows = pairs((one, "1/2"), (two, "1/2"))
        kept, entries = list(rows), [one.entries(), two.entries()]
        found = blended(tree=root, pairs=rows)
        self.assertEqual((rows, [one.entries(), two.entries()]), (kept, entries))
        shown = told(found)
        rows.clear()
        self.assertEqual(told(found), shown)

    def test_all_plans_without_lots(self):
        # Each plan is a lot over plans without lots; lots at views are drawn each on its own.
        root = tree(TWICE)
        made = plan(root, "chooser", "1/3 2/3", "1/4 3/4", "2/5 3/5")
        rows = []
        for one in all_pure(root, "chooser"):
            weight = Ratio(1)
            for (_, lots), move in zip(made.entries(), choices(one)):
                weight = weight * lots[move]
            rows.append((one, weight))
        self.assertTrue(blended(root, rows) == made)

    def test_many_games(self):
        rng = random.Random(111)
        for text, root in [(text, tree(text)) for text in SMALL] + random_trees(112, 80, debts=True):
            if plans_in(root, "comer") > 64:
                continue
            for many in (1, 2, 5):
                parts = [rng.randint(0, 4) for _ in range(many - 1)] + [rng.randint(1, 4)]
                rows = [(self.any_plan(root, rng), Ratio(part, sum(parts))) for part in parts]
                with self.subTest(text):
                    found = self.assertBlended(root, rows)
                    self.assertPaidAlike(root, rows, found, random_plan(root, "comer", rng))

    def any_plan(self, root, rng):
        if rng.random() < 0.5:
            return random_plan(root, "chooser", rng)
        views = views_of(root, "chooser")
        return sure(views, [rng.randrange(many) for _, many in views])


if __name__ == "__main__":
    unittest.main()
