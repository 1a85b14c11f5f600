"""Texts that write no game, and the word at which each goes wrong."""

import unittest

from lostleast.errors import BadText
from lostleast.game import game_text, read_game

NUMBERS = ("0", "1", "8", "9", "65535")
OPERATORS = ("+", "-", "*", "/", "mod", "<", "=")
CHANCES = ("draw", "choose", "come")
NEEDS_NO_VARIABLE = ("show", "pay", "take", "if")
STATEMENTS = ("set",) + CHANCES + NEEDS_NO_VARIABLE
NO_IF = ("set",) + CHANCES + ("show", "pay", "take")
DECLARED = ("x", "abcdefgh", "p", "y")
EXPRESSIONS = NUMBERS + DECLARED + OPERATORS

# What may stand at a place of the text below, among the words of VOCABULARY.
ALLOWED = {
    "opening": ("var",) + NEEDS_NO_VARIABLE,
    "first_name": ("x", "abcdefgh", "y", "p", "q"),
    "second_name": ("abcdefgh", "y", "p", "q"),
    "other_name": ("y", "p", "q"),
    "last_name": ("y", "q"),
    "size": ("1", "8", "9", "65535"),
    "head": ("var",) + STATEMENTS,
    "statement": STATEMENTS,
    "variable": DECLARED,
    "value": EXPRESSIONS,
    "leaf": NUMBERS + DECLARED,
    "many": ("1", "8"),
    "seat": ("chooser", "comer"),
    "then": STATEMENTS + ("else", "end"),
    "deepest_then": NO_IF + ("else", "end"),
    "else": STATEMENTS,
    "behind_else": STATEMENTS + ("end",),
    "deepest_else": NO_IF,
    "behind_deepest_else": NO_IF + ("end",),
    "no_chances": ("set",) + NEEDS_NO_VARIABLE,
    "no_chances_then": ("set",) + NEEDS_NO_VARIABLE + ("else", "end"),
}

# Outermost parts of a game: each word with the kind of the place where it stands.
PARTS = (
    "var@opening x@first_name 1@size",
    "var@head abcdefgh@second_name 65535@size",
    "var@head p@other_name 9@size",
    "var@head y@last_name 8@size",
    "set@head x@variable 0@value",
    "draw@statement abcdefgh@variable 8@many",
    "choose@statement x@variable 1@many",
    "come@statement p@variable 8@many",
    "show@statement chooser@seat +@value x@value 1@value",
    "show@statement comer@seat abcdefgh@value",
    "pay@statement mod@value <@value =@value -@value *@value 9@leaf p@leaf /@value 1@leaf y@leaf "
    "x@value 8@value 1@value",
    "take@statement 65535@value",
    "if@statement x@value end@then",
    "if@statement +@value x@value 1@value pay@then 1@value else@then take@else 1@value end@behind_else",
    "if@statement 1@value if@then 1@value if@then x@value if@then 0@value pay@deepest_then 1@value else@deepest_then "
    "take@deepest_else 1@value choose@behind_deepest_else x@variable 8@many end@behind_deepest_else end@then "
    "draw@then y@variable 1@many else@then if@else 0@value end@then end@behind_else end@then",
    "if@statement 1@value else@then come@else x@variable 1@many draw@behind_else x@variable 8@many "
    "choose@behind_else x@variable 1@many end@behind_else",
    "come@statement y@variable 1@many",
    "come@statement x@variable 8@many",
    "set@no_chances x@variable 1@value",
    "if@no_chances 1@value pay@no_chances_then 1@value else@no_chances_then show@no_chances comer@seat 1@value end@-",
)

VOCABULARY = (
    "var", "else", "end", "chooser", "comer", "", "x", "abcdefgh", "y", "p", "q", "abcdefghi", "X", "x1", "y_",
    "00", "01", "65536", "100000", "-1", "1\n", "\n", "\t", "x\t", "\nx", "==", "?", "PAY", "If", "pay.", "%", "~",
) + STATEMENTS + NUMBERS + OPERATORS


def wrong_at(text):
    """The `at` with which a text is refused, or None if it writes a game."""
    try:
        read_game(text)
    except BadText as wrong:
        return wrong.at
    return None


def rich_words():
    """The words of the parts in order, each with the kind of its place."""
    return [tuple(word.rsplit("@", 1)) for part in PARTS for word in part.split(" ")]


class WrongTextsTest(unittest.TestCase):

    def assertWrong(self, text, at):
        with self.subTest(text):
            self.assertEqual(wrong_at(text), at)

    def test_the_rich_text_is_a_game(self):
        text = " ".join(word for word, _ in rich_words())
        self.assertEqual(game_text(read_game(text)), text)

    def test_every_word_at_every_place(self):
        words = rich_words()
        for index, (_, place) in enumerate(words):
            if place == "-":
                continue
            before = [word for word, _ in words[:index]]
            for word in VOCABULARY:
                text = " ".join(before + [word])
                at = None if text == "" else wrong_at(text)
                with self.subTest(place=place, index=index, word=word):
                    if word in ALLOWED[place]:
                        self.assertIn(at, (None, index + 1))
                    elif text != "":
                        self.assertEqual(at, index)
                        self.assertEqual(wrong_at(text + " pay 1 else"), index)

    def test_broken_off_at_every_place(self):
        whole, words = [0], []
        for part in PARTS:
            words.extend(word.rsplit("@", 1)[0] for word in part.split(" "))
            whole.append(len(words))
        for many in range(len(words) + 1):
            with self.subTest(many=many):
                self.assertEqual(wrong_at(" ".join(words[:many])), None if many in whole else many)

    def test_the_empty_text_is_a_game(self):
        self.assertIsNone(wrong_at(""))

    def test_empty_words(self):
        self.assertWrong(" ", 0)
        self.assertWrong("  ", 0)
        self.assertWrong(" pay 1", 0)
        self.assertWrong("pay 1 ", 2)
        self.assertWrong("pay ", 1)
        self.assertWrong("pay  1", 1)
        self.assertWrong("pay 1  pay 1", 2)
        self.assertWrong("var x 2 ", 3)
        self.assertWrong("var  x 2", 1)
        self.assertWrong("var x  2", 2)
        self.assertWrong("var x 2  var y 2", 3)
        self.assertWrong("if 1 ", 2)
        self.assertWrong("if 1  end", 2)
        self.assertWrong("if 1 end ", 3)
        self.assertWrong("if 1 else  pay 1 end", 3)

    def test_line_feeds_and_tabs(self):
        self.assertWrong("\n", 0)
        self.assertWrong("\t", 0)
        self.assertWrong("pay 1\n", 1)
        self.assertWrong("\npay 1", 0)
        self.assertWrong("pay\n1", 0)
        self.assertWrong("pay\t1", 0)
        self.assertWrong("pay 1\npay 2", 1)
        self.assertWrong("pay 1 \n", 2)
        self.assertWrong("pay 1 \n pay 2", 2)
        self.assertWrong("pay 1 \t pay 2", 2)
        self.assertWrong("var x\n 2", 1)
        self.assertWrong("var x 2\n", 2)
        self.assertWrong("var x 2 set x\n 1", 4)

    def test_no_variable_is_declared(self):
        for kind in ("set", "draw", "choose", "come"):
            self.assertWrong(kind, 0)
            self.assertWrong(kind + " x 1", 0)
            self.assertWrong("pay 1 " + kind + " x 1", 2)
            self.assertWrong("if 1 " + kind + " x 1 end", 2)
            self.assertWrong("if 1 else " + kind + " x 1 end", 3)
        for kind in ("show", "pay", "take", "if"):
            self.assertWrong(kind, 1)

    def test_else_behind_which_no_statement_stands(self):
        self.assertWrong("if 1 else end", 3)
        self.assertWrong("if 1 pay 1 else end", 5)
        self.assertWrong("if 1 pay 1 else end pay 1", 5)
        self.assertWrong("if 1 else else pay 1 end", 3)
        self.assertWrong("if 1 else", 3)
        self.assertWrong("if 1 else if 1 else end end", 6)

    def test_else_and_end_where_none_may_stand(self):
        self.assertWrong("else", 0)
        self.assertWrong("end", 0)
        self.assertWrong("pay 1 else pay 1", 2)
        self.assertWrong("pay 1 end", 2)
        self.assertWrong("var x 2 else", 3)
        self.assertWrong("var x 2 end", 3)
        self.assertWrong("if else end", 1)
        self.assertWrong("if end", 1)
        self.assertWrong("if 1 end end", 3)
        self.assertWrong("if 1 end else pay 1 end", 3)
        self.assertWrong("if 1 pay end", 3)
        self.assertWrong("if 1 pay else pay 1 end", 3)
        self.assertWrong("if 1 else pay 1 else pay 1 end", 5)
        self.assertWrong("if 1 if 1 else pay 1 end else pay 1 else pay 1 end", 11)

    def test_var_behind_a_statement(self):
        self.assertWrong("pay 1 var x 2", 2)
        self.assertWrong("var x 2 pay x var y 2", 5)
        self.assertWrong("if 1 var x 2 end", 2)
        self.assertWrong("if 1 else var x 2 end", 3)
        self.assertWrong("if 1 pay 1 else pay 1 var x 2 end", 7)
        self.assertWrong("if 1 end var x 2", 3)

    def test_seats(self):
        for seat in ("x", "1", "choosers", "choose", "come", "Chooser", "+", "pay"):
            self.assertWrong("var x 2 show " + seat + " 1", 4)
        self.assertWrong("show chooser comer 1", 2)

    def test_words_that_begin_nothing(self):
        for word in ("x", "1", "+", "chooser", "mod", "PAY", "paid", "var:", "-", "?"):
            self.assertWrong(word, 0)
            self.assertWrong("var x 2 " + word, 3)
            self.assertWrong("var x 2 pay x " + word + " 1", 5)

    def test_broken_off_behind_an_operator(self):
        self.assertWrong("pay +", 2)
        self.assertWrong("pay + 1", 3)
        self.assertWrong("pay + 1 + 1", 5)
        self.assertWrong("pay + + + + +", 6)
        self.assertWrong("pay + + + + + +", 6)

    def test_the_first_wrong_word_counts(self):
        self.assertWrong("pay x take y", 1)
        self.assertWrong("var x 0 var x 0", 2)
        self.assertWrong("var x 2 choose x 9 choose y 9", 5)
        self.assertWrong("end end", 0)
