"""Comings (point 10): which plans they are, their order, and their bound."""

import unittest

from lostleast.errors import LossError, TooLarge
from lostleast.plans import Plan, comings
from lostleast.tree import End, Lot, Move, views_of
from tests.games import SMALL, random_trees
from tests.helpers import all_pure, choices, told, tree


class ComingsTest(unittest.TestCase):

    def assertTooLarge(self, root):
        with self.assertRaises(TooLarge) as caught:
            comings(root)
        self.assertEqual(caught.exception.what, "comings")
        self.assertIsInstance(caught.exception, LossError)

    def test_one_view(self):
        root = tree("var x 9 come x 3")
        view = (("asked", 0, 3),)
        self.assertEqual([told(coming) for coming in comings(root)],
                         [[(view, "1 0 0")], [(view, "0 1 0")], [(view, "0 0 1")]])

    def test_the_move_at_the_last_view_changes_first(self):
        root = tree("var x 9 draw x 3 show comer x if x come x 3 else come x 2 end")
        self.assertEqual([many for _, many in views_of(root, "comer")], [2, 3, 3])
        found = [choices(coming) for coming in comings(root)]
        self.assertEqual(found, [(a, b, c) for a in range(2) for b in range(3) for c in range(3)])
        self.assertEqual(found[:5], [(0, 0, 0), (0, 0, 1), (0, 0, 2), (0, 1, 0), (0, 1, 1)])

    def test_all_views_are_named_in_order(self):
        root = tree("var x 9 draw x 3 show comer - 5 x come x 2")
        views = [view for view, _ in views_of(root, "comer")]
        self.assertEqual([view[0] for view in views], [("shown", 5), ("shown", 4), ("shown", 3)])
        for coming in comings(root):
            self.assertEqual([view for view, _ in coming.entries()], views)

    def test_a_comer_without_moves(self):
        for text in ("", "pay 5", "var x 9 choose x 2 draw x 3 show comer x"):
            found = comings(tree(text))
            self.assertIs(type(found), list)
            self.assertEqual([coming.entries() for coming in found], [[]])
            self.assertTrue(found == [Plan([])])

    def test_moves_with_one_part(self):
        found = comings(tree("var x 9 come x 1 come x 2 come x 1"))
        self.assertEqual([choices(coming) for coming in found], [(0, 0, 0, 0), (0, 1, 0, 0)])

    def test_views_that_are_never_met_together(self):
        found = comings(tree("var x 9 come x 2 come x 3"))
        self.assertEqual([choices(coming) for coming in found],
                         [(a, b, c) for a in range(2) for b in range(3) for c in range(3)])

    def test_64_comings(self):
        for text in ("draw x 2 show comer x come x 8", "draw x 3 show comer x come x 4",
                     "draw x 6 show comer x come x 2", "come x 2 if x come x 8 else come x 4 end",
                     "draw x 2 if x come x 8 else come x 1 come x 8 end"):
            with self.subTest(text):
                root = tree("var x 9 " + text)
                self.assertEqual(len(comings(root)), 64)
                self.assertTrue(comings(root) == all_pure(root, "comer"))

    def test_more_than_64_comings(self):
        text = "var x 9 draw x 3 show comer x if = x 2 come x 2 else if x come x 5 else come x 7 end end"
        self.assertTooLarge(tree(text))
        self.assertTooLarge(tree("var x 9 draw x 2 show comer x if x come x 8 else come x 1 come x 8 come x 2 end"))
        self.assertTooLarge(tree("var x 9 draw x 7 show comer x come x 2"))
        self.assertTooLarge(tree("var x 9 come x 8 come x 8"))
        self.assertTooLarge(tree("var x 9 come x 8 come x 2"))
        self.assertTooLarge(tree("var x 9 come x 2 come x 2 come x 2 come x 2 come x 2"))

    def test_exactly_65(self):
        view = (("asked", 0, 65),)
        self.assertTooLarge(Move("comer", view, [End(at) for at in range(65)]))
        found = comings(Move("comer", view, [End(at) for at in range(64)]))
        self.assertEqual([choices(coming) for coming in found], [(at,) for at in range(64)])
        one, two = (("asked", 0, 5),), (("asked", 1, 13),)
        ends = [End(0) for _ in range(13)]
        self.assertTooLarge(Lot([Move("comer", one, ends[:5]), Move("comer", two, ends)]))
        self.assertEqual(len(comings(Lot([Move("comer", one, ends[:5]), Move("comer", two, ends[:12])]))), 60)

    def test_moves_of_the_chooser_do_not_count(self):
        self.assertEqual(len(comings(tree("var x 9 choose x 8 choose x 8 come x 2"))), 2)

    def test_a_new_list_each_time(self):
        root = tree("var x 9 come x 2")
        first = comings(root)
        first.clear()
        self.assertEqual(len(comings(root)), 2)
        self.assertEqual(len(comings(tree=root)), 2)

    def test_many_games(self):
        for text, root in [(text, tree(text)) for text in SMALL] + random_trees(11, 60):
            with self.subTest(text):
                found = comings(root)
                self.assertTrue(found == all_pure(root, "comer"))
                self.assertTrue(all(isinstance(coming, Plan) for coming in found))


if __name__ == "__main__":
    unittest.main()
