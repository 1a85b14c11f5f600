"""Best answers and hindsight (point 12)."""

import random
import unittest

from lostleast.plans import Answer, Plan, average, comings, hindsight
from lostleast.ratio import Ratio
from lostleast.tree import End, Lot, Move, views_of
from tests.games import SMALL, random_trees
from tests.helpers import (
    all_pure, choices, fraction, plan, pure, ratio, slow_best, slow_hindsights, slow_weighted, tree)
from tests.test_average import random_plan

MATCH = "var x 3 var y 3 come x 3 choose y 3 if = x y pay + 1 x end"
ONE = Ratio(1)


class AnswerTest(unittest.TestCase):

    def assertAnswer(self, root, pairs, paid):
        """That an answer is paid so much, that its plan is, too, and that it names all views, without lots."""
        answer = Answer(root, pairs)
        self.assertIsInstance(answer.paid, Ratio)
        self.assertEqual(str(answer.paid), str(paid))
        made = answer.plan()
        self.assertIsInstance(made, Plan)
        self.assertEqual([(view, len(lots)) for view, lots in made.entries()], views_of(root, "chooser"))
        choices(made)
        self.assertEqual(slow_weighted(root, made, pairs), fraction(answer.paid))
        return made

    def test_no_pair(self):
        self.assertAnswer(tree(MATCH), [], 0)
        self.assertAnswer(tree("pay 5"), [], 0)

    def test_one_pair(self):
        root = tree(MATCH)
        for move in range(3):
            made = self.assertAnswer(root, [(pure(root, "comer", move), ONE)], 1 + move)
            self.assertEqual(choices(made), (move,))
        self.assertAnswer(root, [(pure(root, "comer", 1), ratio("2/7"))], "4/7")

    def test_several_pairs(self):
        root = tree(MATCH)
        zero, one, two = comings(root)
        made = self.assertAnswer(root, [(zero, ratio("7/10")), (one, ratio("1/5")), (two, ratio("1/10"))], "7/10")
        self.assertEqual(choices(made), (0,))
        made = self.assertAnswer(root, [(zero, ratio("1/2")), (one, ratio("3/10")), (two, ratio("1/5"))], "3/5")
        self.assertIn(choices(made), [(1,), (2,)])

    def test_plans_that_stand_twice(self):
        root = tree(MATCH)
        zero, one, _ = comings(root)
        pairs = [(zero, ratio("1/2")), (one, ratio("2/5")), (zero, ratio("1/2"))]
        self.assertEqual(choices(self.assertAnswer(root, pairs, 1)), (0,))

    def test_weights_of_0(self):
        root = tree(MATCH)
        zero, one, two = comings(root)
        made = self.assertAnswer(root, [(zero, Ratio(1, 9)), (two, Ratio(0)), (one, Ratio(0))], "1/9")
        self.assertEqual(choices(made), (0,))
        self.assertAnswer(root, [(zero, Ratio(0)), (two, Ratio(0))], 0)

    def test_weights_that_do_not_add_up_to_1(self):
        root = tree(MATCH)
        zero, one, two = comings(root)
        self.assertAnswer(root, [(zero, Ratio(5)), (one, Ratio(3)), (two, Ratio(1, 2))], 6)
        self.assertAnswer(root, [(zero, Ratio(1, 50)), (one, Ratio(1, 100))], "1/50")

    def test_weights_of_20_digits(self):
        root = tree(MATCH)
        zero, one, _ = comings(root)
        long = 10 ** 20 - 1
        pairs = [(zero, Ratio(long, long - 1)), (one, Ratio(long - 2, 2 * long - 3))]
        self.assertEqual(choices(self.assertAnswer(root, pairs, f"{long}/{long - 1}")), (0,))
        pairs = [(zero, Ratio(long - 1, long)), (one, Ratio(long - 1, 2 * long - 1))]
        self.assertEqual(choices(self.assertAnswer(root, pairs, f"{2 * long - 2}/{2 * long - 1}")), (1,))

    def test_plans_with_lots(self):
        root = tree(MATCH)
        made = self.assertAnswer(root, [(plan(root, "comer", "3/5 1/5 1/5"), ONE)], "3/5")
        self.assertIn(choices(made), [(0,), (2,)])
        self.assertAnswer(root, [(plan(root, "comer", "0 1/3 2/3"), ratio("1/2")), (Plan([]), ONE)], 1)

    def test_plans_that_leave_views_out_make_move_0(self):
        root = tree(MATCH)
        wrong = plan(root, "comer", "0 1")
        for comer in (Plan([]), wrong):
            self.assertEqual(choices(self.assertAnswer(root, [(comer, ONE)], 1)), (0,))

    def test_negative_ends(self):
        root = tree("var x 9 choose x 3 take + 2 mod + x 1 3")
        self.assertEqual(choices(self.assertAnswer(root, [(Plan([]), ONE)], -2)), (2,))
        self.assertAnswer(root, [(Plan([]), ratio("1/2")), (Plan([]), Ratio(2))], -5)

    def test_draws(self):
        root = tree("var x 9 var y 9 draw x 3 choose y 2 if y pay x else pay 1 end pay x")
        self.assertAnswer(root, [(Plan([]), ONE)], 2)
        root = tree("var x 9 var y 9 draw x 3 show chooser x choose y 2 if y pay x else pay 1 end pay x")
        self.assertEqual(choices(self.assertAnswer(root, [(Plan([]), ONE)], "7/3"))[::2], (0, 1))

    def test_views_that_the_answer_itself_never_meets(self):
        text = "var x 9 var y 9 choose x 2 if x pay 9 end choose y 3 if x else pay y end"
        root = tree(text)
        made = self.assertAnswer(root, [(Plan([]), ONE)], 9)
        self.assertEqual(choices(made)[0], 1)
        self.assertEqual(len(made.entries()), 3)

    def test_moves_at_one_view_are_the_same_at_all_its_nodes(self):
        root = tree("var x 9 var y 9 come x 2 draw x 2 choose y 2 if = x y pay 2 end")
        self.assertAnswer(root, [(Plan([]), ONE)], 1)
        root = tree("var x 9 var y 9 come x 2 choose y 2 if = x y pay 1 end")
        self.assertAnswer(root, [(plan(root, "comer", "1/2 1/2"), ONE)], "1/2")
        root = tree("var x 9 var y 9 come x 2 show chooser x choose y 2 if = x y pay 1 end")
        self.assertAnswer(root, [(plan(root, "comer", "1/2 1/2"), ONE)], 1)

    def test_earlier_moves_are_made_for_later_ones(self):
        # Move 0 pays 3 at once, move 1 pays 5 later, but only if the later move is right.
        text = "var x 9 var y 9 choose x 2 if = x 0 pay 3 end choose y 3 if x if = y 2 pay 5 else take 9 end end"
        root = tree(text)
        made = self.assertAnswer(root, [(Plan([]), ONE)], 5)
        self.assertEqual(choices(made)[0], 1)
        self.assertEqual(choices(made)[2], 2)

    def test_asked_in_any_order(self):
        root = tree(MATCH)
        zero, one, _ = comings(root)
        first, second = Answer(root, [(zero, ONE)]), Answer(root, [(one, ONE)])
        self.assertEqual((choices(second.plan()), str(second.paid)), ((1,), "2"))
        self.assertEqual((choices(first.plan()), str(first.paid)), ((0,), "1"))
        self.assertEqual((str(second.paid), choices(second.plan())), ("2", (1,)))
        self.assertTrue(first.plan() == first.plan())
        first.plan().entries().clear()
        self.assertEqual(choices(first.plan()), (0,))

    def test_the_list_that_is_changed_behind_the_making(self):
        root = tree(MATCH)
        zero, one, two = comings(root)
        pairs = [(zero, ONE), (one, ratio("1/4"))]
        answer = Answer(tree=root, pairs=pairs)
        self.assertEqual(pairs, [(zero, ONE), (one, ratio("1/4"))])
        pairs.pop()
        pairs[0] = (two, Ratio(9))
        self.assertEqual((str(answer.paid), choices(answer.plan())), ("1", (0,)))

    def test_no_moves(self):
        self.assertEqual(self.assertAnswer(tree("pay 5"), [(Plan([]), Ratio(3))], 15).entries(), [])

    def test_one_move(self):
        root = tree("var x 9 choose x 1 pay 4")
        self.assertEqual(choices(self.assertAnswer(root, [(Plan([]), ONE)], 4)), (0,))

    def test_games_with_more_than_64_comings(self):
        root = tree("var x 9 var y 9 come x 8 choose y 2 come x 8 pay * x y")
        self.assertAnswer(root, [(plan(root, "comer", "1/2 0 0 0 0 0 0 1/2", *["0 0 0 0 0 0 0 1"] * 8), ONE)], 7)

    def test_trees_made_by_hand(self):
        view = (("asked", 0, 2),)
        root = Lot([Move("chooser", view, [End(4), End(1)]), Move("chooser", view, [End(0), End(5)]), End(9)])
        self.assertEqual(choices(self.assertAnswer(root, [(Plan([]), ONE)], 5)), (1,))

    def test_many_games(self):
        rng = random.Random(3)
        games = random_trees(21, 120, debts=True) + [(text, tree(text)) for text in SMALL]
        for text, root in games:
            pairs = [(random_plan(root, "comer", rng), Ratio(rng.randint(0, 9), rng.randint(1, 9)))
                     for _ in range(rng.randint(0, 4))]
            with self.subTest(text):
                self.assertAnswer(root, pairs, slow_best(root, pairs))


class HindsightTest(unittest.TestCase):

    def assertHindsight(self, root, comer, expected):
        found = hindsight(root, comer)
        self.assertIsInstance(found, Ratio)
        self.assertEqual(str(found), str(expected))

    def test_plans_without_lots(self):
        root = tree(MATCH)
        for move in range(3):
            self.assertHindsight(root, pure(root, "comer", move), 1 + move)

    def test_plans_with_lots(self):
        root = tree(MATCH)
        self.assertHindsight(root, plan(root, "comer", "1/2 1/3 1/6"), "2/3")
        self.assertHindsight(root, plan(root, "comer", "9/10 1/10 0"), "9/10")

    def test_plans_that_leave_views_out(self):
        self.assertHindsight(tree(MATCH), Plan([]), 1)
        self.assertHindsight(tree(MATCH), plan(tree(MATCH), "comer", "0 1"), 1)

    def test_ends_of_all_kinds(self):
        self.assertHindsight(tree("take 5"), Plan([]), -5)
        self.assertHindsight(tree("var x 9 draw x 3 take x"), Plan([]), -1)
        self.assertHindsight(tree(""), Plan([]), 0)

    def test_arguments_by_name(self):
        root = tree(MATCH)
        self.assertEqual(str(hindsight(tree=root, coming=pure(root, "comer", 2))), "3")

    def test_no_average_is_greater(self):
        for text, root in random_trees(22, 60, debts=True):
            with self.subTest(text):
                for coming, top in zip(comings(root), slow_hindsights(root)):
                    self.assertHindsight(root, coming, top)
                    paid = [fraction(average(root, chooser, coming)) for chooser in all_pure(root, "chooser")]
                    self.assertEqual(max(paid), top)


if __name__ == "__main__":
    unittest.main()
