"""Averages (points 6 and 9): what is paid if both seats follow plans."""

import random
import unittest

from lostleast.plans import Plan, average
from lostleast.ratio import Ratio
from lostleast.tree import End, Lot, Move, views_of
from tests.games import SMALL, random_trees
from tests.helpers import all_pure, plan, pure, ratios, slow_average, tree

NONE = Plan([])


def random_plan(root, seat, rng):
    """A plan that leaves out some views, and may have a wrong number of lots at others."""
    entries = []
    for view, many in views_of(root, seat):
        if rng.random() < 0.2:
            continue
        if rng.random() < 0.2:
            many += rng.choice([-1, 1])
        weights = [rng.randint(0, 5) for _ in range(many - 1)] + [rng.randint(1, 5)]
        entries.append((view, [Ratio(weight, sum(weights)) for weight in weights]))
    rng.shuffle(entries)
    return Plan(entries)


class AverageTest(unittest.TestCase):

    def assertAverage(self, root, chooser, comer, expected):
        paid = average(root, chooser, comer)
        self.assertIsInstance(paid, Ratio)
        self.assertEqual(str(paid), expected)

    def test_no_moves(self):
        self.assertAverage(tree(""), NONE, NONE, "0")
        self.assertAverage(tree("take 7"), NONE, NONE, "-7")
        self.assertAverage(tree("var x 9 draw x 4 pay x"), NONE, NONE, "3/2")

    def test_each_draw_has_equal_chances(self):
        self.assertAverage(tree("var x 9 draw x 3 if x draw x 2 end pay x"), NONE, NONE, "1/3")
        self.assertAverage(tree("var x 9 draw x 8 if = x 7 draw x 8 if = x 7 pay 64 end end"), NONE, NONE, "1")
        self.assertAverage(tree("var x 9 draw x 2 draw x 3 draw x 5 pay x take 3"), NONE, NONE, "-1")
        self.assertAverage(tree("var x 9 draw x 1 draw x 7 take = x 3"), NONE, NONE, "-1/7")

    def test_draws_with_sizes_that_join_results(self):
        self.assertAverage(tree("var x 2 draw x 3 pay x"), NONE, NONE, "1/3")

    def test_plans_without_lots(self):
        root = tree("var x 9 var y 9 come x 3 choose y 3 pay + * 10 x y")
        for x in range(3):
            for y in range(3):
                self.assertAverage(root, pure(root, "chooser", y), pure(root, "comer", x), str(10 * x + y))

    def test_plans_with_lots(self):
        root = tree("var x 9 var y 9 come x 2 choose y 3 pay * + 1 x y")
        self.assertAverage(root, plan(root, "chooser", "1/2 1/3 1/6"), plan(root, "comer", "3/4 1/4"), "5/6")
        self.assertAverage(root, plan(root, "chooser", "0 0 1"), plan(root, "comer", "1/3 2/3"), "10/3")

    def test_lots_at_later_views_are_those_of_the_view(self):
        root = tree("var x 9 var y 9 choose x 2 choose y 2 pay + * 10 x y")
        self.assertAverage(root, plan(root, "chooser", "1/2 1/2", "1 0", "0 1"), NONE, "11/2")
        self.assertAverage(root, plan(root, "chooser", "1/3 2/3", "1/2 1/2", "1/4 3/4"), NONE, "22/3")

    def test_views_that_the_plan_leaves_out(self):
        root = tree("var x 9 var y 9 come x 3 choose y 3 pay + 1 + * 10 x y")
        self.assertAverage(root, NONE, NONE, "1")
        self.assertAverage(root, NONE, plan(root, "comer", "0 1/2 1/2"), "16")
        self.assertAverage(root, plan(root, "chooser", "0 0 1"), NONE, "3")

    def test_a_wrong_number_of_lots(self):
        root = tree("var x 9 var y 9 come x 3 choose y 3 pay + 1 + * 10 x y")
        for lots in ("1", "0 1", "0 0 0 1", "1/4 1/4 1/4 1/4", "1/2 1/2"):
            self.assertAverage(root, plan(root, "chooser", lots), plan(root, "comer", "0 0 1"), "21")
            self.assertAverage(root, plan(root, "chooser", "0 0 1"), plan(root, "comer", lots), "3")

    def test_views_that_the_game_has_not(self):
        root = tree("var x 9 choose x 3 pay + 1 x")
        for view in ((), (("asked", 1, 3),), (("shown", 0), ("asked", 0, 3)), (("asked", 0, 2),), (("did", 0),)):
            self.assertAverage(root, Plan([(view, ratios("0 0 1"))]), NONE, "1")
            both = Plan([(view, ratios("0 0 1")), ((("asked", 0, 3),), ratios("0 1 0"))])
            self.assertAverage(root, both, NONE, "2")

    def test_a_plan_of_the_other_seat_tells_nothing(self):
        root = tree("var x 9 var y 9 come x 3 choose y 3 pay + 1 + * 10 x y")
        self.assertAverage(root, pure(root, "comer", 2), pure(root, "chooser", 2), "1")

    def test_the_same_view_at_several_nodes(self):
        root = tree("var x 9 var y 9 draw x 3 choose y 2 if y pay x else pay 5 end")
        self.assertAverage(root, plan(root, "chooser", "1/2 1/2"), NONE, "3")
        root = tree("var x 9 var y 9 draw x 3 show comer < x 2 come y 2 if y pay x else pay 5 end")
        self.assertAverage(root, NONE, plan(root, "comer", "0 1", "1/2 1/2"), "3/2")

    def test_negative_ends(self):
        root = tree("var x 9 choose x 2 if x take 3 else pay 1 end")
        self.assertAverage(root, plan(root, "chooser", "1/2 1/2"), NONE, "-1")
        self.assertAverage(root, plan(root, "chooser", "1/5 4/5"), NONE, "-11/5")

    def test_lots_of_60_digits(self):
        root = tree("var x 9 choose x 2 pay x")
        long = 10 ** 59 + 9
        made = Plan([((("asked", 0, 2),), [Ratio(1, long), Ratio(long - 1, long)])])
        self.assertAverage(root, made, NONE, f"{long - 1}/{long}")

    def test_the_order_of_entries_does_not_matter(self):
        root = tree("var x 9 var y 9 choose x 2 choose y 2 pay + * 10 x y")
        made = plan(root, "chooser", "1/3 2/3", "1/2 1/2", "1/4 3/4")
        self.assertAverage(root, Plan(made.entries()[::-1]), NONE, "22/3")

    def test_arguments_by_name_and_unchanged(self):
        root = tree("var x 9 var y 9 come x 2 choose y 2 pay + * 10 x y")
        chooser, comer = pure(root, "chooser", 1), pure(root, "comer", 1)
        entries = (chooser.entries(), comer.entries())
        self.assertEqual(str(average(tree=root, chooser=chooser, comer=comer)), "11")
        self.assertEqual((chooser.entries(), comer.entries()), entries)

    def test_the_same_plans_on_several_trees_in_turn(self):
        texts = ("var x 9 var y 9 come x 2 choose y 2 pay + * 10 x y", "var x 9 var y 9 come x 2 choose y 3 pay y",
                 "var x 9 var y 9 come x 3 choose y 2 take + * 10 x y", "var y 9 choose y 2 pay y")
        chooser = Plan([((("asked", 1, 2),), ratios("1/2 1/2")), ((("asked", 0, 2),), ratios("0 1"))])
        comer = Plan([((("asked", 0, 2),), ratios("0 1"))])
        for _ in range(2):
            found = [str(average(tree(text), chooser, comer)) for text in texts]
            self.assertEqual(found, ["21/2", "0", "-1/2", "1"])

    def test_trees_made_by_hand(self):
        one, two = (("asked", 0, 2),), (("asked", 1, 2),)
        root = Lot([Move("chooser", one, [End(4), End(8)]), Move("comer", two, [End(0), Lot([End(-1), End(2)])])])
        chooser, comer = Plan([(one, ratios("1/4 3/4"))]), Plan([(two, ratios("1/3 2/3"))])
        self.assertAverage(root, chooser, comer, "11/3")
        self.assertAverage(End(-4), chooser, comer, "-4")

    def test_all_plans_without_lots_of_small_games(self):
        for text in SMALL:
            root = tree(text)
            for chooser in all_pure(root, "chooser")[:20]:
                for comer in all_pure(root, "comer"):
                    expected = str(slow_average(root, chooser, comer))
                    self.assertAverage(root, chooser, comer, expected)

    def test_plans_of_all_kinds_on_many_games(self):
        rng = random.Random(5)
        for text, root in random_trees(6, 150, debts=True) + [(text, tree(text)) for text in SMALL]:
            for _ in range(3):
                chooser, comer = random_plan(root, "chooser", rng), random_plan(root, "comer", rng)
                with self.subTest(text):
                    self.assertAverage(root, chooser, comer, str(slow_average(root, chooser, comer)))


if __name__ == "__main__":
    unittest.main()
