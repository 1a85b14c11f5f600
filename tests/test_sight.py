"""Sights (points 14 and 19): games with sights, their least regret, and the least sets of sights."""

import random
import unittest
from itertools import combinations

from lostleast.errors import LossError, TooLarge
from lostleast.game import Game, game_text, read_game
from lostleast.least import least_regret
from lostleast.ratio import Ratio
from lostleast.sight import least_sights, regret_with, with_sights
from lostleast.tree import tree_of, views_of
from tests.games import SMALL, expression, statements
from tests.helpers import ratio, tree

# The chooser must guess what has come; z is drawn and tells nothing of it.
GUESS = "var x 2 var y 2 var z 2 draw z 2 come x 2 choose y 2 if = x y pay 1 end"
# The chooser must guess the sum of what has come and what is drawn.
SUM = "var x 2 var y 2 var z 2 draw z 2 come x 2 choose y 2 if = y mod + x z 2 pay 1 end"
FOUR = "var x 4 var y 4 come x 4 choose y 4 if = x y pay 1 end"
TINY = Ratio(1, 10 ** 30)


def value(text):
    """The expression that a text writes."""
    return read_game("var x 9 var y 9 var z 9 pay " + text).block[0][1]


def sights(*pairs):
    """Sights of pairs of an index and the text of an expression."""
    return [(index, value(text)) for index, text in pairs]


class WithSightsTest(unittest.TestCase):

    def assertGame(self, text, pairs, expected):
        """That the game of a text is the one of another text with some sights."""
        game, shown = read_game(text), sights(*pairs)
        kept = (game.variables, game.block, list(shown))
        found = with_sights(game, shown)
        self.assertIsInstance(found, Game)
        self.assertEqual(game_text(found), expected)
        self.assertTrue(found == read_game(expected))
        self.assertEqual((found.variables, found.block), (game.variables, read_game(expected).block))
        self.assertIs(type(found.block), tuple)
        self.assertEqual((game.variables, game.block, shown), kept)

    def test_no_sight(self):
        for text in (GUESS, SUM, "", "var x 2", "pay 5") + SMALL:
            self.assertGame(text, [], text)

    def test_each_index(self):
        head = "var x 2 var y 2 var z 2 "
        self.assertGame(GUESS, [(0, "x")],
                        head + "show chooser x draw z 2 come x 2 choose y 2 if = x y pay 1 end")
        self.assertGame(GUESS, [(1, "z")],
                        head + "draw z 2 show chooser z come x 2 choose y 2 if = x y pay 1 end")
        self.assertGame(GUESS, [(2, "mod + x z 2")],
                        head + "draw z 2 come x 2 show chooser mod + x z 2 choose y 2 if = x y pay 1 end")
        self.assertGame(GUESS, [(3, "7")],
                        head + "draw z 2 come x 2 choose y 2 show chooser 7 if = x y pay 1 end")
        self.assertGame(GUESS, [(4, "< x y")],
                        head + "draw z 2 come x 2 choose y 2 if = x y pay 1 end show chooser < x y")

    def test_several_sights(self):
        self.assertGame("var x 2 pay 1 pay 2 pay 3", [(3, "30"), (0, "0"), (2, "20"), (1, "10")],
                        "var x 2 show chooser 0 pay 1 show chooser 10 pay 2 show chooser 20 pay 3 show chooser 30")
        self.assertGame("var x 2 pay 1 pay 2", [(1, "x"), (2, "- 1 x")],
                        "var x 2 pay 1 show chooser x pay 2 show chooser - 1 x")

    def test_several_sights_with_one_index(self):
        self.assertGame("pay 1 pay 2", [(1, "5"), (1, "4"), (1, "6")],
                        "pay 1 show chooser 5 show chooser 4 show chooser 6 pay 2")
        self.assertGame("pay 1 pay 2", [(1, "5"), (2, "9"), (1, "4"), (0, "8"), (2, "7"), (0, "8"), (1, "6")],
                        "show chooser 8 show chooser 8 pay 1 show chooser 5 show chooser 4 show chooser 6 "
                        "pay 2 show chooser 9 show chooser 7")

    def test_games_without_a_statement(self):
        self.assertGame("", [(0, "3")], "show chooser 3")
        self.assertGame("var x 2", [(0, "x"), (0, "5")], "var x 2 show chooser x show chooser 5")

    def test_an_index_counts_outermost_statements_only(self):
        text = "var x 2 if x pay 1 pay 2 if x pay 3 else pay 4 end else pay 5 end pay 6"
        self.assertGame(text, [(0, "10"), (1, "11"), (2, "12")],
                        "var x 2 show chooser 10 if x pay 1 pay 2 if x pay 3 else pay 4 end else pay 5 end "
                        "show chooser 11 pay 6 show chooser 12")

    def test_moves_keep_their_numbers(self):
        text = "var x 2 come x 2 if x choose x 2 else come x 2 end choose x 2"
        game = with_sights(read_game(text), sights((0, "1"), (1, "x"), (2, "x"), (3, "x")))
        self.assertEqual(game.block[1], ("come", "x", 2, 0))
        self.assertEqual(game.block[3], ("if", ("variable", "x"), (("choose", "x", 2, 1),), (("come", "x", 2, 2),)))
        self.assertEqual(game.block[5], ("choose", "x", 2, 3))
        numbered = Game([("x", 2)], [("choose", "x", 2, 7)])
        self.assertEqual(with_sights(numbered, sights((0, "x"))).block,
                         (("show", "chooser", ("variable", "x")), ("choose", "x", 2, 7)))

    def test_more_than_a_text_may_have(self):
        found = with_sights(read_game("pay 1"), sights(*[(0, "1")] * 50))
        self.assertEqual(len(found.block), 51)
        deep = ("number", 1)
        for _ in range(8):
            deep = ("+", deep, ("number", 1))
        self.assertEqual(with_sights(read_game("pay 1"), [(1, deep)]).block[1], ("show", "chooser", deep))

    def test_arguments_by_name(self):
        found = with_sights(game=read_game("pay 1"), sights=sights((0, "2")))
        self.assertTrue(found == read_game("show chooser 2 pay 1"))

    def test_what_the_chooser_sees(self):
        game = with_sights(read_game(GUESS), sights((3, "5"), (2, "7"), (2, "x")))
        self.assertEqual([view for view, _ in views_of(tree_of(game), "chooser")], [
            (("shown", 7), ("shown", 0), ("asked", 1, 2)), (("shown", 7), ("shown", 1), ("asked", 1, 2))])
        self.assertEqual([view for view, _ in views_of(tree_of(game), "comer")], [(("asked", 0, 2),)])


class RegretWithTest(unittest.TestCase):

    def assertRegret(self, text, pairs, expected):
        game, shown = read_game(text), sights(*pairs)
        found = regret_with(game, shown)
        self.assertIsInstance(found, Ratio)
        self.assertEqual(str(found), expected)
        self.assertEqual(str(least_regret(tree_of(with_sights(game, shown))).value), expected)
        self.assertTrue(game == read_game(text))
        self.assertEqual(shown, sights(*pairs))

    def test_no_sights(self):
        self.assertRegret(GUESS, [], "1/2")
        self.assertRegret(SUM, [], "0")
        self.assertRegret(FOUR, [], "3/4")
        for text in SMALL:
            self.assertRegret(text, [], str(least_regret(tree(text)).value))

    def test_sights(self):
        self.assertRegret(GUESS, [(2, "x")], "0")
        self.assertRegret(GUESS, [(1, "x")], "1/2")
        self.assertRegret(GUESS, [(3, "x")], "1/2")
        self.assertRegret(GUESS, [(4, "x")], "1/2")
        self.assertRegret(FOUR, [(1, "mod x 2")], "1/2")
        self.assertRegret(FOUR, [(1, "mod x 2"), (1, "/ x 2")], "0")
        # The least regret grows as hindsight does.
        self.assertRegret(SUM, [(1, "z")], "1/2")
        self.assertRegret(SUM, [(2, "mod + x z 2")], "0")

    def test_in_turn_and_by_name(self):
        game = read_game(GUESS)
        for _ in range(2):
            self.assertEqual(str(regret_with(game, [])), "1/2")
            self.assertEqual(str(regret_with(game=game, sights=sights((2, "x")))), "0")
            self.assertEqual(str(regret_with(read_game(FOUR), sights((1, "mod x 2")))), "1/2")

    def test_random_games(self):
        for game, shown in random_sights(141, 30):
            self.assertEqual(str(regret_with(game, shown)),
                             str(least_regret(tree_of(with_sights(game, shown))).value))


def random_sights(seed, many):
    """Random games with few sights, of which the least regret can be told."""
    rng = random.Random(seed)
    found = []
    while len(found) < many:
        text = f"var x {rng.randint(2, 4)} var y {rng.randint(2, 4)} var z 4 {statements(rng, rng.randint(3, 6), 1)} "
        try:
            game = read_game(text + "choose y 2 pay mod + * 3 x + * 5 y z 7")
            regret_with(game, [])
        except LossError:
            continue
        places = [rng.randint(0, len(game.block)) for _ in range(rng.randint(0, 4))]
        shown = [(place, value(expression(rng, 1))) for place in places]
        if len(views_of(tree_of(game), "comer")) > 0:
            found.append((game, shown))
    return found


def slow_least_sets(game, shown, aim):
    """The least sets, by the words of point 19."""
    every = [list(chosen) for many in range(len(shown) + 1) for chosen in combinations(range(len(shown)), many)]
    enough = [chosen for chosen in every if not aim.less(regret_with(game, [shown[at] for at in chosen]))]
    return [chosen for chosen in enough
            if not any(set(part) < set(chosen) for part in enough)]


class LeastSightsTest(unittest.TestCase):

    def assertSets(self, text, pairs, aim, expected):
        game, shown, bound = read_game(text), sights(*pairs), ratio(aim)
        found = least_sights(game, shown, bound)
        self.assertEqual(found, expected)
        self.assertIs(type(found), list)
        self.assertTrue(all(type(chosen) is list for chosen in found))
        self.assertEqual(found, slow_least_sets(game, shown, bound))
        self.assertTrue(game == read_game(text))
        self.assertEqual((shown, str(bound)), (sights(*pairs), aim))

    def assertAround(self, text, pairs, aim, expected, less):
        """That these are the sets with an aim, and others those with an aim that is a little less."""
        self.assertSets(text, pairs, aim, expected)
        self.assertSets(text, pairs, str(ratio(aim) + TINY), expected)
        self.assertSets(text, pairs, str(ratio(aim) - TINY), less)

    def test_an_aim_that_no_set_meets(self):
        pairs = [(1, "z"), (0, "x"), (4, "x")]
        for aim in ("0", "1/3", "-1", "-1/2"):
            self.assertSets(GUESS, pairs, aim, [])
        self.assertSets(GUESS, [(2, "x")], "-1/100", [])

    def test_an_aim_that_the_game_meets(self):
        pairs = [(2, "x"), (1, "z"), (2, "mod + x z 2")]
        for aim in ("1/2", "3/4", "100"):
            self.assertSets(GUESS, pairs, aim, [[]])
        self.assertSets(SUM, pairs, "0", [[]])

    def test_one_needed_sight(self):
        pairs = [(1, "z"), (2, "x"), (0, "x")]
        for aim in ("0", "1/4"):
            self.assertSets(GUESS, pairs, aim, [[1]])
        self.assertAround(GUESS, pairs, "0", [[1]], [])
        self.assertAround(GUESS, pairs, "1/2", [[]], [[1]])

    def test_two_that_only_help_together(self):
        pairs = [(1, "z"), (2, "mod + x z 2")]
        self.assertAround(GUESS, pairs, "0", [[0, 1]], [])
        self.assertAround(GUESS, pairs, "1/2", [[]], [[0, 1]])
        self.assertSets(GUESS, pairs[::-1], "0", [[0, 1]])

    def test_two_of_which_each_is_enough(self):
        self.assertSets(GUESS, [(2, "x"), (1, "z"), (2, "- 1 x")], "0", [[0], [2]])
        self.assertSets(GUESS, [(2, "+ x 5"), (2, "= x 0")], "1/4", [[0], [1]])

    def test_smaller_sets_first(self):
        pairs = [(1, "z"), (2, "mod + x z 2"), (2, "x")]
        self.assertSets(GUESS, pairs, "0", [[2], [0, 1]])
        self.assertSets(GUESS, [pairs[2], pairs[0], pairs[1]], "0", [[0], [1, 2]])

    def test_sets_of_one_size_in_their_order(self):
        pairs = [(1, "mod x 2"), (1, "/ x 2"), (1, "= x 3"), (1, "< 0 x"), (1, "< x 2")]
        self.assertAround(FOUR, pairs, "0", [[0, 1], [0, 4], [0, 2, 3], [1, 2, 3], [2, 3, 4]], [])

    def test_exactly_at_the_least_regret_of_some_set(self):
        pairs = [(1, "mod x 2"), (1, "/ x 2")]
        self.assertAround(FOUR, pairs, "3/4", [[]], [[0], [1]])
        self.assertAround(FOUR, pairs, "1/2", [[0], [1]], [[0, 1]])
        self.assertAround(FOUR, pairs, "0", [[0, 1]], [])

    def test_sights_that_are_twice_in_the_list(self):
        self.assertSets(GUESS, [(2, "x"), (2, "x")], "0", [[0], [1]])
        self.assertSets(GUESS, [(1, "z"), (2, "mod + x z 2"), (1, "z"), (2, "mod + x z 2")], "0",
                        [[0, 1], [0, 3], [1, 2], [2, 3]])

    def test_sights_that_make_the_least_regret_greater(self):
        # What is drawn, and the sum, which is all that is asked for.
        self.assertSets(SUM, [(1, "z"), (2, "mod + x z 2")], "0", [[]])
        text = SUM + " come x 2 choose y 2 if = x y pay 1 end"
        self.assertEqual(str(least_regret(tree(text)).value), "1/2")
        # The second x helps, and z makes it worse again, unless the first x is shown, too.
        pairs = [(1, "z"), (5, "x"), (2, "x")]
        self.assertEqual([str(regret_with(read_game(text), sights(*[pairs[at] for at in chosen])))
                          for chosen in ([0], [1], [0, 1], [0, 1, 2])], ["1", "0", "1/2", "0"])
        self.assertAround(text, pairs, "0", [[1]], [])
        self.assertAround(text, pairs, "1/2", [[]], [[1]])

    def test_sights_that_leave_the_least_regret(self):
        pairs = [(0, "x"), (0, "5"), (1, "z"), (3, "x"), (4, "x")]
        self.assertAround(GUESS, pairs, "1/2", [[]], [])
        self.assertSets(GUESS, pairs + [(2, "x")], "0", [[5]])

    def test_no_sights(self):
        self.assertAround(GUESS, [], "1/2", [[]], [])
        self.assertAround("", [], "0", [[]], [])
        self.assertSets("pay 3", [(0, "1"), (1, "2")], "0", [[]])
        self.assertSets("pay 3", [(0, "1"), (1, "2")], "-1", [])

    def test_ten_sights(self):
        pairs = [(1, f"= x {at % 4}") for at in range(10)]
        found = least_sights(read_game(FOUR), sights(*pairs), Ratio(0))
        # All values but one must be told apart from the others.
        different = [list(chosen) for chosen in combinations(range(10), 3) if len({at % 4 for at in chosen}) == 3]
        self.assertEqual(found, different)

    def test_asked_in_turn(self):
        game, other = read_game(GUESS), read_game(FOUR)
        shown, halves = sights((1, "z"), (2, "mod + x z 2"), (2, "x")), sights((1, "mod x 2"), (1, "/ x 2"))
        for _ in range(2):
            self.assertEqual(least_sights(game, shown, Ratio(0)), [[2], [0, 1]])
            self.assertEqual(least_sights(game, shown, Ratio(1, 2)), [[]])
            self.assertEqual(least_sights(game, shown[:2], Ratio(0)), [[0, 1]])
            self.assertEqual(least_sights(other, halves, Ratio(1, 2)), [[0], [1]])
            self.assertEqual(least_sights(game=game, sights=shown, aim=Ratio(-1)), [])

    def test_a_new_list_with_new_lists(self):
        game, shown = read_game(GUESS), sights((1, "z"), (2, "mod + x z 2"), (2, "x"))
        first = least_sights(game, shown, Ratio(0))
        for chosen in first:
            chosen.append(77)
        first.clear()
        self.assertEqual(least_sights(game, shown, Ratio(0)), [[2], [0, 1]])
        self.assertEqual(shown, sights((1, "z"), (2, "mod + x z 2"), (2, "x")))
        empty = least_sights(game, shown, Ratio(1))
        empty[0].append(5)
        self.assertEqual(least_sights(game, shown, Ratio(1)), [[]])

    def test_random_games(self):
        several = 0
        for game, shown in random_sights(142, 70):
            every = [chosen for many in range(len(shown) + 1) for chosen in combinations(shown, many)]
            aims = {str(regret_with(game, list(chosen))) for chosen in every}
            for aim in sorted(aims):
                for bound in (ratio(aim), ratio(aim) - TINY):
                    with self.subTest(game_text(game)):
                        found = least_sights(game, shown, bound)
                        self.assertEqual(found, slow_least_sets(game, shown, bound))
                        several += found not in ([], [[]])
        self.assertGreater(several, 3)


class TooLargeTest(unittest.TestCase):

    def assertTooLarge(self, game, what, shown=()):
        for call in (lambda: regret_with(game, list(shown)), lambda: least_sights(game, list(shown), Ratio(100)),
                     lambda: least_sights(game, list(shown), Ratio(-1))):
            with self.assertRaises(TooLarge) as caught:
                call()
            self.assertEqual(caught.exception.what, what)

    def test_nodes(self):
        for text in ("var x 8 choose x 8 choose x 8 choose x 8", "var x 8 draw x 8 draw x 8 draw x 8 pay x",
                     "var x 8 come x 8 come x 8 come x 8"):
            self.assertTooLarge(read_game(text), "nodes")
            self.assertTooLarge(read_game(text), "nodes", sights((0, "1"), (1, "x")))

    def test_comings(self):
        for text in ("", " pay x", " take x"):
            text = "var x 9 come x 8 come x 8" + text
            self.assertTooLarge(read_game(text), "comings")
            self.assertTooLarge(read_game(text), "comings", sights((0, "1"), (2, "x")))

    def test_with_sights_raises_nothing(self):
        self.assertEqual(len(with_sights(read_game("var x 9" + 10 * " come x 8"), sights((3, "x"))).block), 11)


if __name__ == "__main__":
    unittest.main()
