"""The bounds of texts, each at the bound and one beyond it, and words that are nearly right."""

import unittest

from lostleast.errors import BadText
from lostleast.game import game_text, read_game

FIVE = "var a 1 var b 2 var c 3 var d 4 var e 5"
KEY_WORDS = ("var", "set", "draw", "choose", "come", "show", "chooser", "comer",
             "pay", "take", "if", "else", "end", "mod")


class BoundsTest(unittest.TestCase):

    def assertGame(self, text):
        self.assertEqual(game_text(read_game(text)), text)

    def assertWrong(self, text, at):
        with self.subTest(text):
            with self.assertRaises(BadText) as caught:
                read_game(text)
            self.assertEqual(caught.exception.at, at)

    def test_variables(self):
        self.assertGame(FIVE)
        self.assertEqual(len(read_game(FIVE).variables), 5)
        self.assertWrong(FIVE + " var f 6", 15)
        self.assertWrong(FIVE + " var", 15)
        self.assertGame(FIVE + " pay a")

    def test_sizes(self):
        self.assertGame("var x 1")
        self.assertGame("var x 10")
        self.assertGame("var x 65535")
        for size in ("0", "00", "01", "002", "65536", "65540", "66000", "70000", "99999", "100000",
                     "-1", "+1", "x", "1x"):
            self.assertWrong("var x " + size, 2)
            self.assertWrong("var x " + size + " pay 1", 2)

    def test_numbers(self):
        for number, value in (("0", 0), ("7", 7), ("10", 10), ("100", 100), ("9999", 9999), ("65535", 65535)):
            with self.subTest(number):
                self.assertEqual(read_game("pay " + number).block, (("pay", ("number", value)),))
                self.assertGame("pay " + number)
        for number in ("00", "07", "000", "00000", "01000", "65536", "65540", "70000", "99999", "100000", "655350",
                       "000001", "-1", "+1", "-", "1.", "1.0", "1e3", "0x1", "1_0", "1,", "--1"):
            self.assertWrong("take " + number + " pay 1", 2 if number == "-" else 1)
            self.assertWrong("if + 1 " + number + " end", 4 if number == "-" else 3)

    def test_names(self):
        for name in ("a", "z", "xy", "abcdefgh", "vars", "ends", "variable", "number", "shown", "elses"):
            with self.subTest(name):
                text = "var " + name + " 2 set " + name + " + 1 " + name
                self.assertGame(text)
                self.assertEqual(read_game(text).variables, ((name, 2),))
        for name in ("abcdefghi", "abcdefghijklmnop", "X", "Ab", "aB", "x1", "1x", "1", "x_", "_x", "x-y", "x.",
                     "{", "`", "+", "<", "~", "@"):
            self.assertWrong("var " + name + " 2", 1)

    def test_key_words_are_no_names(self):
        for name in KEY_WORDS:
            self.assertWrong("var " + name + " 2", 1)
            self.assertWrong("var x 2 var " + name + " 2", 4)

    def test_names_declared_twice(self):
        self.assertWrong("var x 2 var x 2", 4)
        self.assertWrong("var x 2 var y 2 var x 3 pay 1", 7)
        self.assertGame("var x 2 var xx 2")

    def test_names_that_are_not_declared(self):
        self.assertWrong("var x 2 set y 1", 4)
        self.assertWrong("var x 2 draw y 1", 4)
        self.assertWrong("var x 2 choose y 1", 4)
        self.assertWrong("var x 2 come y 1", 4)
        self.assertWrong("var x 2 pay y", 4)
        self.assertWrong("var x 2 take y", 4)
        self.assertWrong("var x 2 show comer y", 5)
        self.assertWrong("var x 2 show chooser y", 5)
        self.assertWrong("var x 2 if y end", 4)
        self.assertWrong("var x 2 set x y", 5)
        self.assertWrong("var x 2 pay + y x", 5)
        self.assertWrong("var x 2 pay + x y", 6)
        self.assertWrong("var x 2 set xx 1", 4)
        self.assertWrong("var xx 2 pay x", 4)
        self.assertWrong("pay x", 1)

    def test_results_and_moves(self):
        for kind in ("draw", "choose", "come"):
            for many in "12345678":
                self.assertGame("var x 2 " + kind + " x " + many)
            for many in ("0", "9", "10", "08", "01", "65535", "x", "+", "8.", ""):
                self.assertWrong("var x 2 " + kind + " x " + many, 5)
                self.assertWrong("var x 2 " + kind + " x " + many + " pay 1", 5)

    def test_draws_and_moves_in_all(self):
        kinds = ["draw", "choose", "come", "draw", "choose", "come", "draw", "choose", "come", "choose"]
        ten = "var x 2 " + " ".join(kind + " x 1" for kind in kinds)
        self.assertGame(ten)
        self.assertGame(ten + " pay x set x 1")
        for kind in ("draw", "choose", "come"):
            self.assertGame("var x 2" + 10 * (" " + kind + " x 8"))
            self.assertWrong("var x 2" + 11 * (" " + kind + " x 8"), 33)
            self.assertWrong(ten + " " + kind + " x 1", 33)
            self.assertWrong(ten + " " + kind, 33)
            self.assertWrong(ten + " pay x if x " + kind + " x 1 end", 37)

    def test_draws_and_moves_within_ifs(self):
        three = "draw x 1 choose x 1 come x 1"
        nine = "var x 2 if x " + three + " else " + three + " if x " + three + " end end"
        self.assertGame(nine + " come x 1")
        self.assertWrong(nine + " come x 1 draw x 1", len((nine + " come x 1").split(" ")))
        self.assertWrong("var x 2 if x " + three + " " + three + " " + three + " else draw x 1 come x 1 end", 36)

    def test_depth_of_ifs_in_the_first_part(self):
        self.assertGame("if 1 if 1 if 1 if 1 pay 1 end end end end")
        self.assertGame("if 1 if 1 if 1 if 1 end if 1 end end end end if 1 end")
        self.assertWrong("if 1 if 1 if 1 if 1 if 1 end end end end end", 8)
        self.assertWrong("if 1 if 1 if 1 if 1 pay 1 if 1 end end end end end", 10)

    def test_depth_of_ifs_in_the_second_part(self):
        self.assertGame("if 1 else if 1 else if 1 else if 1 else pay 1 end end end end")
        self.assertWrong("if 1 else if 1 else if 1 else if 1 else if 1 end end end end end", 12)
        self.assertWrong("if 1 else if 1 else if 1 else if 1 else pay 1 if 1 end", 14)
        self.assertWrong("if 1 if 1 if 1 if 1 else if 1 end end end end end", 9)
        self.assertWrong("if 1 else if 1 else if 1 else if 1 if 1 end end end end end", 11)

    def test_ifs_behind_each_other_are_not_deeper(self):
        self.assertGame("if 1 end if 1 end if 1 end if 1 end if 1 end if 1 end")
        self.assertGame("if 1 if 1 if 1 if 1 end end end else if 1 if 1 if 1 end end end end")
        self.assertWrong("if 1 if 1 if 1 if 1 end end end else if 1 if 1 if 1 if 1 end end end end end", 18)

    def test_depth_of_expressions_on_the_first_side(self):
        for sign in ("+", "-", "*", "/", "mod", "<", "="):
            self.assertGame("pay" + 5 * (" " + sign) + " 1" + 5 * " 2")
            self.assertWrong("pay" + 6 * (" " + sign) + " 1" + 6 * " 2", 6)

    def test_depth_of_expressions_on_the_second_side(self):
        for sign in ("+", "-", "*", "/", "mod", "<", "="):
            self.assertGame("pay" + 5 * (" " + sign + " 2") + " 1")
            self.assertWrong("pay" + 6 * (" " + sign + " 2") + " 1", 11)

    def test_depth_of_expressions_on_both_sides(self):
        full = "1"
        for _ in range(5):
            full = "+ " + full + " " + full
        self.assertGame("pay " + full)
        self.assertGame("show comer " + full + " pay " + full)
        self.assertWrong("pay " + full.replace("1", "+ 1 1"), 6)
        self.assertWrong("pay + + + + + 1 - 1 1 1 1 1 1", 7)
        self.assertWrong("pay + 1 + 1 + + + 1 1 + 1 + 1 1 1", 12)

    def test_depth_of_expressions_in_every_statement(self):
        deep, deeper = "+ + + + + 1 1 1 1 1 1", "+ + + + + + 1 1 1 1 1 1 1"
        for before, after in (("set x ", ""), ("show comer ", ""), ("show chooser ", ""), ("pay ", ""), ("take ", ""),
                              ("if ", " end"), ("if 1 pay ", " end"), ("if 1 else pay ", " end")):
            self.assertGame("var x 2 " + before + deep + after)
            self.assertWrong("var x 2 " + before + deeper + after, 3 + len(before.split()) + 5)
