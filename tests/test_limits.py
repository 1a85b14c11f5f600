"""The bounds of texts, trees and comings once more (points 2, 3, 8, 10), asked of all functions that they limit."""

import unittest

from lostleast.errors import BadText, NoPlan, NoShare, TooLarge
from lostleast.game import Game, game_text, read_game
from lostleast.least import (
    Found, greatest_share, holds, least_regret, regret_of, share_of, worst_for)
from lostleast.plans import Answer, Plan, comings
from lostleast.ratio import Ratio
from lostleast.rounds import repeated
from lostleast.sight import least_sights, regret_with, with_sights
from lostleast.tree import End, Lot, Move, tree_of
from lostleast.trust import Trusted, blended, most_trusted, trust_holds
from tests.helpers import count, fraction

NONE = Plan([])
FAR = Ratio(10 ** 6)
ONE = ("number", 1)


class TextsTest(unittest.TestCase):

    def assertBounds(self, most, at, text_with):
        """That a text may have so many of some parts; with more of them the first word too much is told."""
        for many in range(most + 1):
            text = text_with(many)
            self.assertEqual(game_text(read_game(text)), text)
        for many in (most + 1, most + 2):
            self.assertWrong(text_with(many), at)

    def assertWrong(self, text, at):
        with self.subTest(text):
            with self.assertRaises(BadText) as caught:
                read_game(text)
            self.assertEqual(caught.exception.at, at)

    def assertNumbers(self, before, least, most, after=""):
        """That a number from least to most may stand behind a text."""
        for number in (least, least + 1, most - 1, most):
            text = f"{before} {number}{after}"
            self.assertEqual(game_text(read_game(text)), text)
        for number in (least - 2, least - 1, most + 1, most + 2):
            self.assertWrong(f"{before} {number}{after}", len(before.split(" ")))

    def test_variables(self):
        self.assertBounds(5, 15, lambda many: " ".join(f"var {name} 2" for name in "abcdefg"[:many]))
        self.assertBounds(5, 15, lambda many: " ".join(f"var {name} 2" for name in "gfedcba"[:many]) + " pay 1"
                          if many else "pay 1")

    def test_draws_and_moves(self):
        for kind in ("draw", "choose", "come"):
            self.assertBounds(10, 33, lambda many: "var x 2" + many * f" {kind} x 8")
            self.assertBounds(10, 35, lambda many: "var x 2 if x" + many * f" {kind} x 1" + " end")
            self.assertBounds(10, 38, lambda many: f"var x 2 if x else pay 1{many * f' {kind} x 1'} end")

    def test_draws_and_moves_of_all_kinds(self):
        nine = "var x 2" + 3 * " draw x 1 choose x 2 come x 3"
        for kind in ("draw", "choose", "come"):
            self.assertBounds(1, 33, lambda many: nine + many * f" {kind} x 8")
            for more, at in ((" draw x 1", 33), (" choose x 1 come x 1", 33), (" if x come x 1 end", 35),
                             (" if x else draw x 1 end", 36), (" pay 1 choose x 1", 35)):
                self.assertWrong(f"{nine} {kind} x 8{more}", at)

    def test_ifs_in_ifs(self):
        self.assertBounds(4, 10, lambda many: "pay 1" + many * " if 1" + many * " end")
        self.assertBounds(4, 18, lambda many: "pay 1" + many * " if 1 pay 2" + many * " end")
        self.assertBounds(4, 19, lambda many: "pay 1 if 1 end if 1 if 1 end end" + many * " if 1" + many * " end")

    def test_ifs_in_second_parts(self):
        self.assertBounds(4, 14, lambda many: "pay 1" + many * " if 1 else" + " pay 2" + many * " end")
        self.assertBounds(2, 11, lambda many: "if 1 if 1 else" + many * " if 1 else" + " pay 2" + (2 + many) * " end")

    def test_operators_in_operators(self):
        for sign in ("+", "-", "*", "/", "mod", "<", "="):
            for before in ("pay", "take", "show chooser", "show comer"):
                at = len(before.split(" "))
                self.assertBounds(5, at + 5, lambda many: before + many * f" {sign}" + " 1" + many * " 2")
                self.assertBounds(5, at + 10, lambda many: before + many * f" {sign} 2" + " 1")
        self.assertBounds(5, 10, lambda many: "var x 2 set x" + many * " +" + " x" + many * " 2")
        self.assertBounds(5, 6, lambda many: "if" + many * " +" + " 1" + many * " 2" + " end")

    def test_numbers(self):
        for before, after in (("pay", ""), ("take", " pay 1"), ("show comer", ""), ("pay +", " 1"), ("pay + 1", ""),
                              ("var x 2 set x", " pay x"), ("if", " end")):
            for number in (0, 1, 65534, 65535):
                text = f"{before} {number}{after}"
                self.assertEqual(game_text(read_game(text)), text)
            for number in (65536, 65537, 99999, 100000):
                self.assertWrong(f"{before} {number}{after}", len(before.split(" ")))

    def test_sizes(self):
        self.assertNumbers("var x", 1, 65535)
        self.assertNumbers("var y 2 var x", 1, 65535, " pay x")

    def test_results(self):
        for kind in ("draw", "choose", "come"):
            self.assertNumbers(f"var x 2 {kind} x", 1, 8)
            self.assertNumbers(f"var x 2 {kind} x", 1, 8, " pay x")

    def test_names(self):
        for many in range(1, 9):
            self.assertEqual(game_text(read_game(f"var {'a' * many} 2")), f"var {'a' * many} 2")
        for many in (9, 10):
            self.assertWrong(f"var {'a' * many} 2", 1)


# The nodes are 399, 400 or 401 if the last move of one way has 6, 7 or 8 parts; there are 64 comings.
NODES = ("var x 9 var y 9 var a 9 var b 9 draw x 3 show comer x come y 4 choose a 4 "
         "if = + + x y a 8 choose b {} else choose b 7 end{}")
PAY = " pay mod * + 1 a * + 2 b * + 3 x + 4 y 17"
SIZES = ("", PAY, " take b")


def game_of_comings(many, paid):
    """A game with 63, 64 or 65 comings, with one of them for each pair of moves, or each three, of the comer."""
    moves = {63: (7, 3, 3), 64: (4, 4, 4), 65: (13, 5, 1)}[many]
    first, second, third = [("come", "y", size, at) for at, size in enumerate(moves)]
    seen = ("variable", "x")
    block = [("draw", "x", 3), ("show", "comer", seen),
             ("if", seen, (("if", ("<", seen, ("number", 2)), (second,), (third,)),), (first,)),
             ("choose", "x", 2, 3)]
    return Game([("x", 9), ("y", 20)], block + list(read_game("var x 9 var y 9" + paid).block))


class FunctionsTest(unittest.TestCase):

    def questions(self, root):
        """All functions that are limited by the comings of a tree, asked so that some have no other answer."""
        found = [Found(kind, Ratio(value), NONE, weights) for kind in ("regret", "share", "")
                 for value in (0, 1) for weights in ([], [(NONE, Ratio(1))], [(NONE, Ratio(-1))])]
        trusted = [Trusted(Ratio(value), NONE, weights)
                   for value in (0, 1) for weights in ([], [(NONE, Ratio(1))], [(NONE, Ratio(-1))])]
        asked = [lambda: regret_of(root, NONE), lambda: worst_for(root, NONE), lambda: share_of(root, NONE),
                 lambda: least_regret(root), lambda: greatest_share(root), lambda: comings(root)]
        asked += [lambda one=one: holds(root, one) for one in found]
        for most in (Ratio(-1), Ratio(0), FAR):
            asked.append(lambda most=most: most_trusted(root, NONE, most))
            asked += [lambda most=most, one=one: trust_holds(root, NONE, most, one) for one in trusted]
        return asked

    def sighted(self, game):
        """The functions that are limited by the tree of a game with sights."""
        shown = [(0, ONE), (len(game.block), ("number", 2))]
        return [lambda: regret_with(game, []), lambda: regret_with(game, shown),
                lambda: least_sights(game, [], Ratio(-1)), lambda: least_sights(game, [], FAR),
                lambda: least_sights(game, shown, Ratio(-1)), lambda: least_sights(game, shown, FAR)]

    def assertTooLarge(self, questions, what):
        for question in questions:
            with self.assertRaises(TooLarge) as caught:
                question()
            self.assertEqual(caught.exception.what, what)

    def assertNotTooLarge(self, questions):
        for question in questions:
            try:
                question()
            except (NoShare, NoPlan):
                pass

    def test_nodes(self):
        for paid in SIZES:
            for last, many in ((6, 399), (7, 400)):
                game = read_game(NODES.format(last, paid))
                root = tree_of(game)
                self.assertEqual((count(root), len(comings(root))), (many, 64))
                self.assertNotTooLarge(self.questions(root) + self.sighted(game))
            game = read_game(NODES.format(8, paid))
            self.assertTooLarge([lambda: tree_of(game)] + self.sighted(game), "nodes")

    def test_answers_at_the_bound_of_nodes(self):
        for last in (6, 7):
            game = read_game(NODES.format(last, PAY))
            root = tree_of(game)
            least = least_regret(root)
            self.assertTrue(holds(root, least))
            self.assertEqual(str(regret_with(game, [])), str(least.value))
            self.assertEqual(least_sights(game, [(0, ONE)], least.value), [[]])
            self.assertEqual(least_sights(game, [(0, ONE)], least.value - Ratio(1, 10 ** 9)), [])
            self.assertTrue(holds(root, greatest_share(root)))
            expected = comings(root)[5]
            for most in (least.value, least.value + Ratio(1, 7), FAR):
                found = most_trusted(root, expected, most)
                self.assertIs(trust_holds(root, expected, most, found), True)
                self.assertLessEqual(fraction(regret_of(root, found.plan)), fraction(most))
            self.assertEqual(str(found.value), str(Answer(root, [(expected, Ratio(1))]).paid))
            self.assertTrue(blended(root, [(least.plan, Ratio(1))]) == least.plan)
            with self.assertRaises(NoPlan) as caught:
                most_trusted(root, expected, least.value - Ratio(1, 10 ** 9))
            self.assertEqual(str(caught.exception.least), str(least.value))

    def test_nodes_of_draws_alone(self):
        # Each but the last draw makes 3 nodes more, behind which the game goes on only with the result 2.
        for last, many in ((6, 399), (7, 400), (8, 401)):
            block = (("draw", "x", last),)
            for _ in range(98):
                block = (("draw", "x", 4), ("if", ("=", ("variable", "x"), ("number", 2)), block, ()))
            game = Game([("x", 9)], block)
            if many <= 400:
                self.assertEqual(count(tree_of(game)), many)
                self.assertEqual(str(regret_with(game, [])), "0")
                self.assertEqual(least_sights(game, [], Ratio(0)), [[]])
            else:
                self.assertTooLarge([lambda: tree_of(game)] + self.sighted(game), "nodes")

    def test_nothing_to_be_paid(self):
        root = tree_of(read_game(NODES.format(7, "")))
        for asked in (lambda: share_of(root, NONE), lambda: greatest_share(root)):
            with self.assertRaises(NoShare) as caught:
                asked()
            self.assertEqual(caught.exception.what, "nothing")
        with self.assertRaises(NoPlan) as caught:
            most_trusted(root, NONE, Ratio(-1))
        self.assertEqual(str(caught.exception.least), "0")
        self.assertEqual(str(most_trusted(root, NONE, Ratio(0)).value), "0")

    def test_comings(self):
        for paid in ("", " pay x", " pay * x y", " take x"):
            for many in (63, 64):
                game = game_of_comings(many, paid)
                root = tree_of(game)
                self.assertEqual(len(comings(root)), many)
                self.assertNotTooLarge(self.questions(root) + self.sighted(game))
            game = game_of_comings(65, paid)
            self.assertTooLarge(self.questions(tree_of(game)) + self.sighted(game), "comings")

    def test_comings_of_one_move(self):
        for many in (63, 64, 65):
            for paid in ("", " pay x", " pay * x y", " take x"):
                block = [("come", "x", many, 0), ("choose", "y", 2, 1)]
                game = Game([("x", 99), ("y", 9)], block + list(read_game("var x 9 var y 9" + paid).block))
                root = tree_of(game)
                if many < 65:
                    self.assertEqual(len(comings(root)), many)
                    self.assertNotTooLarge(self.questions(root) + self.sighted(game))
                else:
                    self.assertTooLarge(self.questions(root) + self.sighted(game), "comings")

    def test_comings_of_trees_made_by_hand(self):
        one, two = (("asked", 0, 5),), (("asked", 1, 13),)
        for paid in (0, 3, -3):
            ends = [End(paid)] * 65
            self.assertTooLarge(self.questions(Move("comer", one, ends)), "comings")
            self.assertNotTooLarge(self.questions(Move("comer", one, ends[:64])))
            self.assertTooLarge(self.questions(Lot([Move("comer", one, ends[:5]), Move("comer", two, ends[:13])])),
                                "comings")

    def test_answers_at_the_bound_of_comings(self):
        for many in (63, 64):
            game = game_of_comings(many, " pay mod + * 3 x * 5 y 7")
            root = tree_of(game)
            least = least_regret(root)
            self.assertTrue(holds(root, least))
            self.assertEqual(str(regret_with(game, [])), str(least.value))
            found = most_trusted(root, comings(root)[-1], least.value)
            self.assertIs(trust_holds(root, comings(root)[-1], least.value, found), True)

    def test_the_nodes_come_first(self):
        # Such a game has no tree of which comings could be counted.
        game = read_game("var x 9 come x 8 come x 8 come x 8")
        self.assertTooLarge([lambda: tree_of(game)] + self.sighted(game), "nodes")

    def test_many_comings_and_400_nodes(self):
        text = "var x 9 var y 9 var a 9 var b 9 draw x 3 show comer x come y 7 choose a 3 choose b 4"
        root = tree_of(read_game(text))
        self.assertLessEqual(count(root), 400)
        self.assertTooLarge(self.questions(root) + self.sighted(read_game(text)), "comings")

    def test_what_is_not_limited(self):
        # These make data of a game, or plans for a tree with more comings.
        game = read_game("var x 9 come x 8 come x 8")
        self.assertEqual(len(repeated(game, 9).block), 26)
        self.assertEqual(len(with_sights(game, [(0, ONE)]).block), 3)
        self.assertEqual(blended(tree_of(game), [(NONE, Ratio(1))]).entries(), [])


if __name__ == "__main__":
    unittest.main()
