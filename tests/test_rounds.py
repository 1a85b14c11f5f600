"""Games that are played several times (points 14 and 24)."""

import random
import unittest

from lostleast.errors import LossError
from lostleast.game import Game, game_text, read_game
from lostleast.least import least_regret
from lostleast.rounds import repeated
from lostleast.tree import ends_of, tree_of, views_of
from tests.games import SMALL, statements
from tests.helpers import fraction, tree

GUESS = "var x 2 var y 2 come x 2 choose y 2 if = x y pay 1 end"
IFS = ("var x 2 var y 3 come x 2 if x choose y 2 else if y come y 3 choose y 1 else draw y 2 end choose x 2 end "
       "come x 1 pay x")


class RepeatedTest(unittest.TestCase):

    def assertRepeated(self, text, count, expected):
        """That the game of a text, played so many times, is the game of another text."""
        game = read_game(text)
        kept = (game.variables, game.block)
        found = repeated(game, count)
        self.assertIsInstance(found, Game)
        self.assertTrue(found == read_game(expected))
        self.assertEqual((found.variables, found.block), (read_game(expected).variables, read_game(expected).block))
        self.assertIs(type(found.block), tuple)
        self.assertEqual((game.variables, game.block), kept)

    def test_no_time(self):
        self.assertRepeated(GUESS, 0, "var x 2 var y 2")
        self.assertRepeated("pay 5", 0, "")
        self.assertRepeated("", 0, "")
        self.assertRepeated(IFS, 0, "var x 2 var y 3")

    def test_one_time(self):
        for text in (GUESS, IFS, "", "pay 5", "var x 3", "var x 3 draw x 3 pay x") + SMALL:
            self.assertRepeated(text, 1, text)

    def test_two_and_three_times(self):
        block = "come x 2 choose y 2 if = x y pay 1 end"
        self.assertRepeated(GUESS, 2, f"var x 2 var y 2 {block} set x 0 set y 0 {block}")
        self.assertRepeated(GUESS, 3, f"var x 2 var y 2 {block} set x 0 set y 0 {block} set x 0 set y 0 {block}")

    def test_variables_in_their_order(self):
        self.assertRepeated("var b 2 var a 3 var c 4 pay a", 2,
                            "var b 2 var a 3 var c 4 pay a set b 0 set a 0 set c 0 pay a")

    def test_no_variables(self):
        self.assertRepeated("pay 5 if 1 take 2 else show comer 3 end", 3,
                            "pay 5 if 1 take 2 else show comer 3 end " * 2 + "pay 5 if 1 take 2 else show comer 3 end")

    def test_no_statements(self):
        self.assertRepeated("", 4, "")
        self.assertRepeated("var x 2 var y 3", 1, "var x 2 var y 3")
        self.assertRepeated("var x 2 var y 3", 3, "var x 2 var y 3 set x 0 set y 0 set x 0 set y 0")

    def test_no_moves(self):
        self.assertRepeated("var x 3 draw x 3 pay x", 3,
                            "var x 3 draw x 3 pay x set x 0 draw x 3 pay x set x 0 draw x 3 pay x")

    def test_all_statements(self):
        block = ("set x + 1 y draw x 2 choose x 3 come y 2 show chooser * x y show comer - x y pay mod x 2 "
                 "take < x y if = x y end if x pay 1 else take 1 end")
        self.assertRepeated("var x 2 var y 3 " + block, 2, f"var x 2 var y 3 {block} set x 0 set y 0 {block}")

    def test_numbers_of_moves(self):
        numbers = [statement[3] for statement in repeated(read_game(GUESS), 3).block
                   if statement[0] in ("come", "choose")]
        self.assertEqual(numbers, [0, 1, 2, 3, 4, 5])

    def test_numbers_of_moves_within_ifs(self):
        game = read_game(IFS)
        self.assertEqual(moves_of(game.block), [0, 1, 2, 3, 4, 5])
        for count in range(5):
            self.assertEqual(moves_of(repeated(game, count).block), list(range(6 * count)))
        # The text of several times is beyond what a text may have, but for the numbers it is the same text.
        first = IFS.replace("var x 2 var y 3 ", "")
        self.assertEqual(game_text(repeated(game, 3)), IFS + 2 * (" set x 0 set y 0 " + first))
        self.assertEqual(repeated(game, 2).block[-2], ("come", "x", 1, 11))
        self.assertEqual(repeated(game, 2).block[7], (
            "if", ("variable", "x"), (("choose", "y", 2, 7),),
            (("if", ("variable", "y"), (("come", "y", 3, 8), ("choose", "y", 1, 9)), (("draw", "y", 2),)),
             ("choose", "x", 2, 10))))

    def test_an_if_without_a_second_part(self):
        block = repeated(read_game("var x 2 if x choose x 2 end"), 2).block
        self.assertEqual(block, (("if", ("variable", "x"), (("choose", "x", 2, 0),), ()), ("set", "x", ("number", 0)),
                                 ("if", ("variable", "x"), (("choose", "x", 2, 1),), ())))

    def test_more_moves_than_a_text_may_have(self):
        ten = "var x 1" + 5 * " choose x 1 come x 1"
        found = repeated(read_game(ten), 9)
        self.assertEqual(moves_of(found.block), list(range(90)))
        self.assertEqual(len(ends_of(tree_of(found))), 1)
        self.assertEqual(len(views_of(tree_of(found), "comer")), 45)
        self.assertEqual(views_of(tree_of(found), "comer")[44][0][-1], ("asked", 89, 1))
        with self.assertRaises(LossError):
            read_game(game_text(found))

    def test_of_a_game_that_is_repeated(self):
        game = read_game(GUESS)
        self.assertTrue(repeated(repeated(game, 2), 2) == repeated(game, 4))
        self.assertTrue(repeated(repeated(game, 1), 3) == repeated(game, 3))

    def test_of_a_game_that_is_made_of_lists(self):
        block = [["choose", "x", 2, 0], ["if", ["variable", "x"], [["come", "x", 3, 1]], []]]
        game = Game([["x", 4]], block)
        found = repeated(game, 2)
        self.assertEqual(found.variables, (("x", 4),))
        self.assertEqual(found.block[:2], (("choose", "x", 2, 0),
                                           ("if", ("variable", "x"), (("come", "x", 3, 1),), ())))
        self.assertEqual(moves_of(found.block), [0, 1, 2, 3])
        self.assertEqual(block, [["choose", "x", 2, 0], ["if", ["variable", "x"], [["come", "x", 3, 1]], []]])

    def test_arguments_by_name(self):
        self.assertTrue(repeated(game=read_game("pay 1"), count=2) == read_game("pay 1 pay 1"))

    def test_what_was_stored_is_forgotten(self):
        self.assertEqual(ends_of(tree_of(repeated(read_game("var x 9 pay x set x 5 pay x"), 3))), [15])
        self.assertEqual(ends_of(tree_of(repeated(read_game("var x 9 set x + x 2 pay x"), 2))), [4])

    def test_both_seats_remember(self):
        root = tree_of(repeated(read_game("var x 2 var y 2 come x 2 show chooser 7 choose y 2 show comer y"), 2))
        self.assertEqual(views_of(root, "comer")[1][0],
                         (("asked", 0, 2), ("did", 0), ("shown", 0), ("asked", 2, 2)))
        self.assertEqual(views_of(root, "chooser")[1][0],
                         (("shown", 7), ("asked", 1, 2), ("did", 0), ("shown", 7), ("asked", 3, 2)))
        self.assertEqual((len(views_of(root, "comer")), len(views_of(root, "chooser"))), (5, 3))


def moves_of(block):
    """The numbers of all moves, in their order."""
    found = []
    for statement in block:
        if statement[0] == "if":
            found += moves_of(statement[2]) + moves_of(statement[3])
        elif statement[0] in ("choose", "come"):
            found.append(statement[3])
    return found


class RegretTest(unittest.TestCase):

    def test_no_time(self):
        for text in (GUESS, IFS, "take 4", ""):
            self.assertEqual(str(least_regret(tree_of(repeated(read_game(text), 0))).value), "0")

    def test_two_times(self):
        one = least_regret(tree(GUESS)).value
        two = least_regret(tree_of(repeated(read_game(GUESS), 2))).value
        self.assertEqual((str(one), str(two)), ("1/2", "1"))

    def assertAtLeastTwice(self, text):
        """That two times have at least twice the least regret of one, where both can be told; tells whether so."""
        try:
            one = least_regret(tree(text)).value
            two = least_regret(tree_of(repeated(read_game(text), 2))).value
        except LossError:
            return False
        with self.subTest(text):
            self.assertGreaterEqual(fraction(two), 2 * fraction(one))
        return one.num > 0

    def test_small_games(self):
        self.assertGreater(sum(self.assertAtLeastTwice(text) for text in SMALL), 1)

    def test_random_games(self):
        rng = random.Random(121)
        told = 0
        while told < 12:
            text = f"var x {rng.randint(2, 4)} var y 3 var z 5 {statements(rng, rng.randint(3, 5), 1)} pay mod + x y 3"
            if "show" not in within_ifs(text) and text.count("come") <= 2:
                told += self.assertAtLeastTwice(text)


def within_ifs(text):
    """The words that stand within an if."""
    found, depth = [], 0
    for word in text.split():
        depth += (word == "if") - (word == "end")
        if depth > 0:
            found.append(word)
    return found


if __name__ == "__main__":
    unittest.main()
