"""What happens in a game (point 6): values, stores, ifs, and what is paid."""

import unittest

from lostleast.game import Game
from lostleast.tree import ends_of, tree_of
from tests.helpers import tree

BIG = 65535


def paid(text):
    """What is paid in a game without draws and moves."""
    found = ends_of(tree(text))
    assert len(found) == 1
    return found[0]


class ValuesTest(unittest.TestCase):

    def assertValues(self, operator, cases):
        for first, second, value in cases:
            with self.subTest(f"{operator} {first} {second}"):
                self.assertEqual(paid(f"pay {operator} {first} {second}"), value)

    def test_numbers(self):
        for number in (0, 1, 7, 65534, BIG):
            self.assertEqual(paid(f"pay {number}"), number)

    def test_plus(self):
        self.assertValues("+", [
            (0, 0, 0), (2, 3, 5), (BIG, 0, BIG), (65534, 1, BIG), (1, BIG, 0), (BIG, 1, 0), (BIG, 2, 1),
            (BIG, BIG, 65534), (32768, 32768, 0), (32768, 32767, BIG)])

    def test_times(self):
        self.assertValues("*", [
            (0, 9, 0), (9, 0, 0), (1, BIG, BIG), (6, 7, 42), (255, 257, BIG), (256, 256, 0), (2, 32768, 0),
            (3, 32768, 32768), (BIG, BIG, 1), (BIG, 2, 65534), (300, 300, 90000 - 65536)])

    def test_minus(self):
        self.assertValues("-", [
            (5, 3, 2), (3, 3, 0), (3, 4, 0), (0, 1, 0), (0, BIG, 0), (BIG, 0, BIG), (BIG, BIG, 0), (65534, BIG, 0)])

    def test_divided(self):
        self.assertValues("/", [
            (6, 3, 2), (7, 2, 3), (1, 2, 0), (8, 9, 0), (0, 5, 0), (5, 0, 0), (0, 0, 0), (BIG, 0, 0),
            (BIG, 1, BIG), (BIG, 2, 32767), (BIG, BIG, 1), (65534, BIG, 0)])

    def test_remainder(self):
        self.assertValues("mod", [
            (6, 3, 0), (7, 2, 1), (7, 4, 3), (1, 2, 1), (0, 5, 0), (5, 0, 0), (0, 0, 0), (BIG, 0, 0),
            (BIG, 1, 0), (BIG, 256, 255), (BIG, BIG, 0), (65534, BIG, 65534)])

    def test_less(self):
        self.assertValues("<", [
            (0, 1, 1), (1, 0, 0), (0, 0, 0), (5, 5, 0), (9, 10, 1), (10, 9, 0), (65534, BIG, 1), (BIG, 0, 0),
            (BIG, BIG, 0)])

    def test_equal(self):
        self.assertValues("=", [(0, 0, 1), (0, 1, 0), (1, 0, 0), (5, 5, 1), (BIG, BIG, 1), (BIG, 65534, 0)])

    def test_parts_within_parts(self):
        self.assertEqual(paid("pay - + 2 3 * 2 2"), 1)
        self.assertEqual(paid("pay - * 2 2 + 2 3"), 0)
        self.assertEqual(paid("pay + - 2 5 4"), 4)
        self.assertEqual(paid(f"pay / + {BIG} 2 1"), 1)
        self.assertEqual(paid("pay mod / 100 7 - 9 4"), 4)
        self.assertEqual(paid("pay = < 1 2 < 3 4"), 1)
        self.assertEqual(paid("pay + 1 + 2 + 4 + 8 + 16 32"), 63)

    def test_variables_in_expressions(self):
        self.assertEqual(paid("var a 100 var b 100 set a 17 set b 5 pay - a b"), 12)
        self.assertEqual(paid("var a 100 var b 100 set a 17 set b 5 pay mod a b"), 2)
        self.assertEqual(paid("var a 100 var b 100 set a 17 set b 5 pay / b a"), 0)


class StoresTest(unittest.TestCase):

    def test_variables_are_0_at_the_beginning(self):
        self.assertEqual(paid("var a 9 pay a"), 0)
        self.assertEqual(paid("var a 9 var b 1 var c 65535 if + a + b c pay 5 else pay 7 end"), 7)

    def test_set_stores_modulo_the_size(self):
        for size, value, kept in ((1, 0, 0), (1, 5, 0), (2, 5, 1), (5, 4, 4), (5, 5, 0), (5, 6, 1), (5, 14, 4),
                                  (BIG, BIG, 0), (BIG, 65534, 65534), (10, BIG, 5)):
            with self.subTest((size, value)):
                self.assertEqual(paid(f"var a {size} set a {value} pay a"), kept)

    def test_set_reads_before_it_stores(self):
        self.assertEqual(paid("var a 10 set a 3 set a + a a set a + a a pay a"), 2)
        self.assertEqual(paid("var a 10 var b 10 set a 3 set b a set a 4 pay + * 10 a b"), 43)

    def test_draws_choices_and_comings_are_stored_modulo_the_size(self):
        for word in ("draw", "choose", "come"):
            for size, stored in ((1, [0, 0, 0, 0, 0]), (2, [0, 1, 0, 1, 0]), (3, [0, 1, 2, 0, 1]),
                                 (4, [0, 1, 2, 3, 0]), (5, [0, 1, 2, 3, 4]), (9, [0, 1, 2, 3, 4])):
                with self.subTest((word, size)):
                    self.assertEqual(ends_of(tree(f"var a {size} {word} a 5 pay a")), stored)

    def test_they_store_in_place_of_the_old_value(self):
        for word in ("draw", "choose", "come"):
            self.assertEqual(ends_of(tree(f"var a 9 set a 7 {word} a 2 pay a")), [0, 1])
            self.assertEqual(ends_of(tree(f"var a 9 {word} a 3 set a + a 5 pay a")), [5, 6, 7])
            self.assertEqual(ends_of(tree(f"var a 9 {word} a 2 {word} a 3 pay a")), [0, 1, 2] * 2)

    def test_names_that_begin_alike(self):
        text = "var a 9 var ab 9 var abc 9 set a 1 set ab 2 set abc 3 pay + * 100 a + * 10 ab abc"
        self.assertEqual(paid(text), 123)
        self.assertEqual(ends_of(tree("var ab 3 var a 9 draw ab 3 set a 5 pay ab")), [0, 1, 2])
        self.assertEqual(ends_of(tree("var a 9 var ab 3 choose ab 3 pay a")), [0, 0, 0])

    def test_each_part_has_its_own_stores(self):
        text = "var a 9 var b 9 draw a 2 if a set b 4 else set b + b 1 end draw a 2 set b + b a pay b"
        self.assertEqual(ends_of(tree(text)), [1, 2, 4, 5])


class PaidTest(unittest.TestCase):

    def test_pay_and_take_in_all_orders(self):
        self.assertEqual(paid("pay 5 take 3"), 2)
        self.assertEqual(paid("take 3 pay 5"), 2)
        self.assertEqual(paid("take 5 pay 3"), -2)
        self.assertEqual(paid("pay 3 take 5 pay 1"), -1)
        self.assertEqual(paid("take 1 take 2 take 3"), -6)
        self.assertEqual(paid("pay 1 pay 2 pay 3"), 6)
        self.assertEqual(paid("pay 0 take 0"), 0)

    def test_what_is_paid_has_no_bound(self):
        self.assertEqual(paid(f"pay {BIG} pay {BIG}"), 2 * BIG)
        self.assertEqual(paid(f"take {BIG} take {BIG} take 1"), -2 * BIG - 1)
        self.assertEqual(paid(f"pay {BIG} " * 20 + "take 1"), 20 * BIG - 1)

    def test_pay_ahead_of_a_draw_counts_in_all_its_parts(self):
        for word in ("draw", "choose", "come"):
            self.assertEqual(ends_of(tree(f"var a 9 pay 10 {word} a 3 take a pay 1")), [11, 10, 9])

    def test_each_part_is_paid_for_itself(self):
        self.assertEqual(ends_of(tree("var a 9 choose a 2 pay a draw a 2 take * 5 a")), [0, -5, 1, -4])

    def test_no_statements(self):
        self.assertEqual(paid(""), 0)
        self.assertEqual(paid("var a 9"), 0)


class IfTest(unittest.TestCase):

    def test_if_with_both_parts(self):
        for value, end in ((0, 7), (1, 5), (2, 5), (BIG, 5)):
            self.assertEqual(paid(f"if {value} pay 5 else pay 7 end"), end)
            self.assertEqual(paid(f"if {value} pay 5 else pay 7 end pay 100"), end + 100)

    def test_if_with_one_part(self):
        self.assertEqual(paid("pay 1 if 0 pay 5 end pay 10"), 11)
        self.assertEqual(paid("pay 1 if 3 pay 5 end pay 10"), 16)

    def test_an_empty_part(self):
        self.assertEqual(paid("if 1 end pay 2"), 2)
        self.assertEqual(paid("if 0 end pay 2"), 2)
        self.assertEqual(paid("if 1 else pay 3 end pay 2"), 2)
        self.assertEqual(paid("if 0 else pay 3 end pay 2"), 5)

    def test_statements_of_a_part_run_in_their_order(self):
        self.assertEqual(paid("var a 99 if 1 set a 3 set a * a 2 set a + a 1 end pay a"), 7)
        self.assertEqual(paid("var a 99 if 0 else set a 3 set a * a 2 set a + a 1 end set a * a 3 pay a"), 21)

    def test_the_value_is_asked_once(self):
        self.assertEqual(paid("var a 9 set a 1 if a set a 0 pay 3 else pay 5 end"), 3)

    def test_ifs_in_ifs(self):
        text = "if {} if {} pay 1 else pay 2 end pay 10 else if {} pay 3 else pay 4 end pay 20 end pay 100"
        self.assertEqual(paid(text.format(1, 1, 0)), 111)
        self.assertEqual(paid(text.format(1, 0, 1)), 112)
        self.assertEqual(paid(text.format(0, 0, 1)), 123)
        self.assertEqual(paid(text.format(0, 1, 0)), 124)

    def test_draws_and_moves_in_ifs(self):
        text = "var a 9 draw a 3 if = a 1 choose a 2 pay a else pay 5 end take 1"
        self.assertEqual(ends_of(tree(text)), [4, -1, 0, 4])
        text = "var a 9 var b 9 draw a 2 if a come b 2 else pay 7 choose b 3 end pay b pay * 10 a"
        self.assertEqual(ends_of(tree(text)), [7, 8, 9, 10, 11])


class HandmadeGamesTest(unittest.TestCase):

    def test_a_game_that_no_text_writes(self):
        game = Game([(f"v{at}", 3) for at in range(7)], [("set", "v6", ("number", 5)), ("pay", ("variable", "v6"))])
        self.assertEqual(ends_of(tree_of(game)), [2])

    def test_a_hundred_draws_one_behind_the_other(self):
        game = Game([("x", 2)], [("draw", "x", 1)] * 100 + [("pay", ("number", 3))])
        self.assertEqual(ends_of(tree_of(game)), [3])

    def test_the_game_stays_as_it_is(self):
        text = "var a 9 choose a 2 if a pay a draw a 2 else take 1 end show chooser a"
        root = tree(text)
        self.assertEqual(ends_of(root), ends_of(tree(text)))
        block = [("if", ("number", 1), [("pay", ("number", 2))], []), ("take", ("number", 1))]
        game = Game([], block)
        kept = (game.variables, game.block)
        self.assertEqual(ends_of(tree_of(game)), [1])
        self.assertEqual(ends_of(tree_of(game)), [1])
        self.assertEqual((game.variables, game.block), kept)


if __name__ == "__main__":
    unittest.main()
