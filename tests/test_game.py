"""Reading and writing games: the data of every statement and expression, and their texts."""

import unittest

from lostleast.game import Game, game_text, read_game

X = ("variable", "x")
ONE = ("number", 1)

# Texts of single statements in a game with the variables x and yy, and their data.
STATEMENTS = (
    ("set x 1", ("set", "x", ONE)),
    ("set yy x", ("set", "yy", X)),
    ("draw x 3", ("draw", "x", 3)),
    ("choose yy 8", ("choose", "yy", 8, 0)),
    ("come x 1", ("come", "x", 1, 0)),
    ("show chooser x", ("show", "chooser", X)),
    ("show comer 1", ("show", "comer", ONE)),
    ("pay x", ("pay", X)),
    ("take 1", ("take", ONE)),
    ("if x end", ("if", X, (), ())),
    ("if x pay 1 end", ("if", X, (("pay", ONE),), ())),
    ("if x pay 1 take x end", ("if", X, (("pay", ONE), ("take", X)), ())),
    ("if x else pay 1 end", ("if", X, (), (("pay", ONE),))),
    ("if x pay 1 else take x take 1 end", ("if", X, (("pay", ONE),), (("take", X), ("take", ONE)))),
    ("if x if 1 end else if x end end",
     ("if", X, (("if", ONE, (), ()),), (("if", X, (), ()),))),
)

EXPRESSIONS = (
    ("0", ("number", 0)),
    ("65535", ("number", 65535)),
    ("x", X),
    ("yy", ("variable", "yy")),
    ("+ x 1", ("+", X, ONE)),
    ("- 1 x", ("-", ONE, X)),
    ("* x x", ("*", X, X)),
    ("/ x 1", ("/", X, ONE)),
    ("mod x 1", ("mod", X, ONE)),
    ("< 1 x", ("<", ONE, X)),
    ("= x 1", ("=", X, ONE)),
    ("+ - x 1 * 1 x", ("+", ("-", X, ONE), ("*", ONE, X))),
    ("mod / x 1 x", ("mod", ("/", X, ONE), X)),
    ("< x = 1 x", ("<", X, ("=", ONE, X))),
)

COUNTED = ("var x 2 choose x 2 draw x 2 come x 3 if x choose x 4 if x come x 5 end choose x 6 "
           "else come x 7 draw x 1 choose x 8 end come x 1")
COUNTED_BLOCK = (
    ("choose", "x", 2, 0),
    ("draw", "x", 2),
    ("come", "x", 3, 1),
    ("if", X,
     (("choose", "x", 4, 2), ("if", X, (("come", "x", 5, 3),), ()), ("choose", "x", 6, 4)),
     (("come", "x", 7, 5), ("draw", "x", 1), ("choose", "x", 8, 6))),
    ("come", "x", 1, 7),
)


def in_lists(data):
    """Data with a list in the place of each tuple."""
    if isinstance(data, tuple):
        return [in_lists(part) for part in data]
    return data


class GameTestCase(unittest.TestCase):

    def assertTuples(self, data):
        if not isinstance(data, (str, int)):
            self.assertIs(type(data), tuple)
            for part in data:
                self.assertTuples(part)

    def assertReads(self, text, variables, block):
        """Checks that a text is read as this data, and that both ways to have the game write the text."""
        game = read_game(text)
        self.assertIsInstance(game, Game)
        self.assertEqual(game.variables, variables)
        self.assertEqual(game.block, block)
        self.assertTuples(game.variables)
        self.assertTuples(game.block)
        self.assertEqual(game_text(game), text)
        self.assertEqual(game_text(Game(variables, block)), text)
        self.assertEqual(game_text(Game(in_lists(variables), in_lists(block))), text)


class ReadingTest(GameTestCase):

    def test_the_example_of_the_document(self):
        game = read_game("var x 2 come x 2 choose x 3")
        self.assertEqual(game.block, (("come", "x", 2, 0), ("choose", "x", 3, 1)))

    def test_the_empty_text(self):
        self.assertReads("", (), ())

    def test_variables_alone(self):
        self.assertReads("var x 2", (("x", 2),), ())
        self.assertReads("var b 1 var a 65535 var c 3", (("b", 1), ("a", 65535), ("c", 3)), ())

    def test_no_variables(self):
        self.assertReads("pay 3 take 4", (), (("pay", ("number", 3)), ("take", ("number", 4))))

    def test_every_statement(self):
        for text, data in STATEMENTS:
            with self.subTest(text):
                self.assertReads("var x 2 var yy 9 " + text, (("x", 2), ("yy", 9)), (data,))

    def test_every_expression_in_every_statement(self):
        variables = (("x", 2), ("yy", 9))
        for text, data in EXPRESSIONS:
            for before, after, block in (
                ("set yy ", "", (("set", "yy", data),)),
                ("show chooser ", "", (("show", "chooser", data),)),
                ("show comer ", "", (("show", "comer", data),)),
                ("pay ", "", (("pay", data),)),
                ("take ", "", (("take", data),)),
                ("if ", " end", (("if", data, (), ()),)),
                ("if ", " pay 1 else take x end", (("if", data, (("pay", ONE),), (("take", X),)),)),
            ):
                with self.subTest(before + text + after):
                    self.assertReads("var x 2 var yy 9 " + before + text + after, variables, block)

    def test_all_statements_in_a_row(self):
        text = "var x 2 var yy 9 " + " ".join(text for text, _ in STATEMENTS[:4] + STATEMENTS[5:])
        block = tuple(data for _, data in STATEMENTS[:4] + STATEMENTS[5:])
        self.assertReads(text, (("x", 2), ("yy", 9)), block)

    def test_numbers_of_moves(self):
        self.assertReads(COUNTED, (("x", 2),), COUNTED_BLOCK)

    def test_each_reading_counts_moves_from_0(self):
        for _ in range(2):
            self.assertEqual(read_game(COUNTED).block, COUNTED_BLOCK)

    def test_deepest_game(self):
        text = "var x 2 if + + + + + x 1 1 1 1 1 if 1 if 1 if 1 pay 1 else pay x end end end end"
        deep = X
        for _ in range(5):
            deep = ("+", deep, ONE)
        block = (("if", ONE, (("pay", ONE),), (("pay", X),)),)
        block = (("if", deep, (("if", ONE, (("if", ONE, block, ()),), ()),), ()),)
        self.assertReads(text, (("x", 2),), block)

    def test_defined_in_its_file(self):
        for thing in (Game, read_game, game_text):
            self.assertEqual(thing.__module__, "lostleast.game")


class WritingTest(GameTestCase):

    def test_games_made_of_data(self):
        self.assertEqual(game_text(Game((), ())), "")
        self.assertEqual(game_text(Game([("ab", 65535)], [])), "var ab 65535")
        self.assertEqual(game_text(Game([("ab", 3)], [("choose", "ab", 2, 0), ("pay", ("variable", "ab"))])),
                         "var ab 3 choose ab 2 pay ab")

    def test_read_again_it_is_the_same_game(self):
        for text, data in STATEMENTS:
            game = Game([("x", 2), ("yy", 9)], [data])
            self.assertTrue(read_game(game_text(game)) == game)

    def test_writing_changes_nothing(self):
        game = read_game(COUNTED)
        game_text(game)
        self.assertEqual((game.variables, game.block), ((("x", 2),), COUNTED_BLOCK))


class MadeOfListsTest(GameTestCase):

    def test_lists_are_kept_as_tuples(self):
        game = Game([("x", 2)], in_lists(COUNTED_BLOCK))
        self.assertEqual(game.variables, (("x", 2),))
        self.assertEqual(game.block, COUNTED_BLOCK)
        self.assertTuples(game.variables)
        self.assertTuples(game.block)

    def test_arguments_by_name(self):
        game = Game(block=[("pay", ONE)], variables=[("x", 2)])
        self.assertEqual((game.variables, game.block), ((("x", 2),), (("pay", ONE),)))

    def test_later_changes_of_the_lists_change_nothing(self):
        then = [("pay", ONE)]
        variables, block = [("x", 2)], [("if", X, then, []), ["take", ["number", 1]]]
        game = Game(variables, block)
        variables.append(("y", 3))
        then.append(("take", ONE))
        block[1][1][1] = 7
        block[1].append("more")
        block.pop(0)
        self.assertEqual(game.variables, (("x", 2),))
        self.assertEqual(game.block, (("if", X, (("pay", ONE),), ()), ("take", ONE)))
        self.assertEqual(game_text(game), "var x 2 if x pay 1 end take 1")

    def test_the_lists_are_not_changed(self):
        then = [("pay", ONE)]
        pair = ["x", 2]
        variables, block = [pair], [("if", X, then, [])]
        game_text(Game(variables, block))
        self.assertEqual((pair, then), (["x", 2], [("pay", ONE)]))
        self.assertIs(variables[0], pair)
        self.assertEqual(block, [("if", X, [("pay", ONE)], [])])
        self.assertIs(block[0][2], then)


class EqualTest(unittest.TestCase):

    def test_equal_if_variables_and_block_are(self):
        self.assertTrue(read_game(COUNTED) == read_game(COUNTED))
        self.assertTrue(Game([("x", 2)], in_lists(COUNTED_BLOCK)) == Game((("x", 2),), COUNTED_BLOCK))
        self.assertFalse(read_game(COUNTED) != read_game(COUNTED))
        self.assertTrue(Game([], []) == read_game(""))

    def test_not_equal_otherwise(self):
        game = read_game("var x 2 var y 3 pay x")
        for text in ("var x 2 var y 3 pay y", "var x 2 var y 3 take x", "var x 2 var y 3", "var x 2 var y 4 pay x",
                     "var x 2 pay x", "var y 3 var x 2 pay x", "var x 2 var z 3 pay x",
                     "var x 2 var y 3 pay x pay x", ""):
            with self.subTest(text):
                self.assertFalse(game == read_game(text))
                self.assertFalse(read_game(text) == game)
                self.assertTrue(game != read_game(text))

    def test_numbers_of_moves_count(self):
        self.assertFalse(Game([("x", 2)], [("come", "x", 2, 0)]) == Game([("x", 2)], [("come", "x", 2, 1)]))
