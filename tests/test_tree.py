"""Trees (points 7, 8 and 11): their nodes, what the seats see, the bound, and the order of views."""

import unittest

from lostleast.errors import LossError, TooLarge
from lostleast.game import Game
from lostleast.tree import End, Lot, Move, ends_of, tree_of, views_of
from tests.helpers import count, shape, tree


def asked(number, many):
    return ("asked", number, many)


def did(move):
    return ("did", move)


def shown(value):
    return ("shown", value)


class NodesTest(unittest.TestCase):

    def assertTree(self, text, expected):
        self.assertEqual(shape(tree(text)), expected)

    def test_fields_of_nodes(self):
        root = tree("var x 3 draw x 2 choose x 2 pay x")
        self.assertIsInstance(root, Lot)
        self.assertIs(type(root.parts), tuple)
        self.assertEqual(len(root.parts), 2)
        move = root.parts[1]
        self.assertIsInstance(move, Move)
        self.assertEqual(move.seat, "chooser")
        self.assertEqual(move.view, (asked(0, 2),))
        self.assertIs(type(move.view), tuple)
        self.assertIs(type(move.view[0]), tuple)
        self.assertIs(type(move.parts), tuple)
        end = move.parts[1]
        self.assertIsInstance(end, End)
        self.assertEqual(end.paid, 1)

    def test_nodes_made_by_hand(self):
        ends = [End(-3), End(4)]
        lot = Lot(ends)
        self.assertEqual(lot.parts, tuple(ends))
        ends.append(End(9))
        self.assertEqual(len(lot.parts), 2)
        parts = [lot, End(1)]
        move = Move("comer", (asked(0, 2),), parts)
        parts.pop()
        self.assertEqual((move.seat, move.view, len(move.parts)), ("comer", (asked(0, 2),), 2))
        self.assertIs(move.parts[0], lot)
        self.assertEqual(Move(seat="comer", view=(), parts=(lot,)).parts, (lot,))
        self.assertEqual((End(paid=2).paid, Lot(parts=(lot,)).parts), (2, (lot,)))

    def test_the_game_without_statements(self):
        self.assertTree("", 0)
        self.assertTree("var x 2", 0)
        self.assertIsInstance(tree(""), End)

    def test_a_draw(self):
        self.assertTree("var x 9 draw x 3 pay x", ("lot", 0, 1, 2))

    def test_moves(self):
        self.assertTree("var x 9 choose x 3 pay x", ("chooser", (asked(0, 3),), 0, 1, 2))
        self.assertTree("var x 9 come x 2 take x", ("comer", (asked(0, 2),), 0, -1))

    def test_one_part(self):
        self.assertTree("var x 9 draw x 1 pay 7", ("lot", 7))
        self.assertTree("var x 9 choose x 1 pay 7", ("chooser", (asked(0, 1),), 7))
        self.assertTree("var x 9 come x 1 pay 7", ("comer", (asked(0, 1),), 7))
        self.assertTree("var x 9 draw x 1 come x 1 choose x 1", (
            "lot", ("comer", (asked(0, 1),), ("chooser", (asked(1, 1),), 0))))

    def test_eight_parts(self):
        self.assertTree("var x 9 choose x 8 pay x", ("chooser", (asked(0, 8),), *range(8)))

    def test_nothing_else_makes_nodes(self):
        self.assertTree("var x 9 set x 4 if x pay x else take x end show chooser x show comer x", 4)

    def test_parts_stand_in_the_order_of_results(self):
        self.assertTree("var x 9 var y 9 draw x 2 draw y 3 pay + * 10 x y", (
            "lot", ("lot", 0, 1, 2), ("lot", 10, 11, 12)))


class ViewsInTreesTest(unittest.TestCase):

    def assertTree(self, text, expected):
        self.assertEqual(shape(tree(text)), expected)

    def test_shown_values(self):
        self.assertTree("var x 9 draw x 2 show chooser + x 5 choose x 1 pay x", (
            "lot", ("chooser", (shown(5), asked(0, 1)), 0), ("chooser", (shown(6), asked(0, 1)), 0)))

    def test_what_is_shown_to_the_other_seat_is_not_seen(self):
        self.assertTree("var x 9 draw x 2 show comer x choose x 1", (
            "lot", ("chooser", (asked(0, 1),), 0), ("chooser", (asked(0, 1),), 0)))
        self.assertTree("var x 9 draw x 2 show chooser x come x 1", (
            "lot", ("comer", (asked(0, 1),), 0), ("comer", (asked(0, 1),), 0)))
        self.assertTree("show comer 4 show chooser 5 show comer 6", 0)

    def test_the_same_is_shown_twice(self):
        self.assertTree("var x 9 show comer 4 show comer 4 come x 1", (
            "comer", (shown(4), shown(4), asked(0, 1)), 0))

    def test_own_moves_are_seen(self):
        self.assertTree("var x 9 choose x 2 choose x 1 pay x", (
            "chooser", (asked(0, 2),),
            ("chooser", (asked(0, 2), did(0), asked(1, 1)), 0),
            ("chooser", (asked(0, 2), did(1), asked(1, 1)), 0)))

    def test_moves_of_the_other_seat_are_not_seen(self):
        self.assertTree("var x 9 choose x 2 come x 1 choose x 1", (
            "chooser", (asked(0, 2),),
            ("comer", (asked(1, 1),), ("chooser", (asked(0, 2), did(0), asked(2, 1)), 0)),
            ("comer", (asked(1, 1),), ("chooser", (asked(0, 2), did(1), asked(2, 1)), 0))))

    def test_the_move_is_seen_and_not_what_is_stored(self):
        self.assertTree("var x 1 come x 2 come x 1 pay x", (
            "comer", (asked(0, 2),),
            ("comer", (asked(0, 2), did(0), asked(1, 1)), 0),
            ("comer", (asked(0, 2), did(1), asked(1, 1)), 0)))

    def test_events_stand_in_their_order(self):
        text = "var x 9 show chooser 7 choose x 1 show chooser 8 show comer 6 come x 1 show chooser 9 choose x 1"
        self.assertTree(text, (
            "chooser", (shown(7), asked(0, 1)),
            ("comer", (shown(6), asked(1, 1)),
             ("chooser", (shown(7), asked(0, 1), did(0), shown(8), shown(9), asked(2, 1)), 0))))

    def test_moves_are_counted_over_the_whole_text(self):
        text = "var x 9 if 0 choose x 2 come x 2 else come x 1 end if 1 choose x 1 else choose x 3 end come x 1"
        self.assertTree(text, (
            "comer", (asked(2, 1),),
            ("chooser", (asked(3, 1),), ("comer", (asked(2, 1), did(0), asked(5, 1)), 0))))

    def test_shows_in_ifs(self):
        text = "var x 9 draw x 2 if x show chooser 5 else show comer 6 end choose x 1 come x 1"
        self.assertTree(text, (
            "lot",
            ("chooser", (asked(0, 1),), ("comer", (shown(6), asked(1, 1)), 0)),
            ("chooser", (shown(5), asked(0, 1)), ("comer", (asked(1, 1),), 0))))


class BoundTest(unittest.TestCase):

    def assertTooLarge(self, text):
        with self.assertRaises(TooLarge) as caught:
            tree(text)
        self.assertEqual(caught.exception.what, "nodes")
        self.assertIsInstance(caught.exception, LossError)

    def test_400_nodes(self):
        text = "var x 9 draw x 3 draw x 6 draw x 3 draw x 6"
        self.assertEqual(count(tree(text)), 400)
        self.assertEqual(len(ends_of(tree(text))), 324)
        for words in (("choose", "come", "choose", "come"), ("come", "draw", "draw", "choose")):
            text = "var x 9 " + " ".join(f"{word} x {many}" for word, many in zip(words, (3, 6, 3, 6)))
            self.assertEqual(count(tree(text)), 400)

    def test_401_nodes(self):
        self.assertTooLarge("var x 9 draw x 1 draw x 3 draw x 6 draw x 3 draw x 6")
        self.assertTooLarge("var x 9 draw x 8 draw x 7 draw x 6")
        self.assertTooLarge("var x 9 choose x 8 come x 7 choose x 6")
        self.assertTooLarge("var x 9 choose x 1 draw x 3 come x 6 draw x 3 choose x 6")

    def test_many_more_nodes(self):
        for word in ("draw", "choose", "come"):
            self.assertTooLarge("var x 9 " + " ".join([f"{word} x 8"] * 10))

    def test_nodes_behind_one_another(self):
        game = Game([("x", 1)], [("choose", "x", 1, at) for at in range(100)])
        self.assertEqual(count(tree_of(game)), 101)

    def test_uneven_parts(self):
        text = "var x 9 var y 9 draw x 2 if x draw y 8 draw y 7 draw y 5 else {} end"
        self.assertEqual(count(tree(text.format("draw y 6 draw y 7"))), 1 + (1 + 8 + 56 + 280) + (1 + 6 + 42))
        self.assertEqual(count(tree(text.format("draw y 1 draw y 4 draw y 4 draw y 2"))), 400)
        self.assertTooLarge(text.format("draw y 1 draw y 1 draw y 4 draw y 4 draw y 2"))


class EndsTest(unittest.TestCase):

    def test_earlier_parts_first(self):
        text = "var x 9 var y 9 choose x 2 if x come y 3 else draw y 2 end pay + * 10 x y"
        self.assertEqual(ends_of(tree(text)), [0, 1, 10, 11, 12])

    def test_each_end_once_for_each_way_to_it(self):
        self.assertEqual(ends_of(tree("var x 9 draw x 3 take 2")), [-2, -2, -2])

    def test_ends_of_a_tree_made_by_hand(self):
        end = End(5)
        root = Lot([Move("chooser", (asked(0, 2),), [End(3), end]), end, Lot([End(-1)])])
        self.assertEqual(ends_of(root), [3, 5, 5, -1])
        self.assertEqual(ends_of(end), [5])

    def test_a_new_list_each_time(self):
        root = tree("var x 9 draw x 2 pay x")
        first = ends_of(root)
        self.assertIs(type(first), list)
        first.append(7)
        self.assertEqual(ends_of(root), [0, 1])


class ViewsOfTest(unittest.TestCase):

    def test_pairs_of_view_and_number_of_moves(self):
        root = tree("var x 9 choose x 2 come x 3 choose x 4")
        first, second, third = (asked(0, 2),), (asked(0, 2), did(0), asked(2, 4)), (asked(0, 2), did(1), asked(2, 4))
        views = views_of(root, "chooser")
        self.assertEqual(views, [(first, 2), (second, 4), (third, 4)])
        self.assertIs(type(views), list)
        self.assertTrue(all(type(pair) is tuple for pair in views))
        self.assertEqual(views_of(root, "comer"), [((asked(1, 3),), 3)])

    def test_each_view_once_although_it_is_met_at_several_nodes(self):
        root = tree("var x 9 draw x 4 show comer mod x 2 come x 2 choose x 3")
        self.assertEqual(views_of(root, "comer"), [((shown(0), asked(0, 2)), 2), ((shown(1), asked(0, 2)), 2)])
        self.assertEqual(views_of(root, "chooser"), [((asked(1, 3),), 3)])

    def test_the_order_in_which_views_are_met_first(self):
        root = tree("var x 9 draw x 4 show chooser - 3 x show comer mod + x 1 2 choose x 1 come x 1")
        self.assertEqual([view[0][1] for view, _ in views_of(root, "chooser")], [3, 2, 1, 0])
        self.assertEqual([view[0][1] for view, _ in views_of(root, "comer")], [1, 0])

    def test_node_by_node_and_not_level_by_level(self):
        # Behind the first part stands a later move of the text, which is met ahead of the second part's.
        text = ("var x 9 var y 9 draw x 2 if = x 0 draw y 2 if y choose y 5 else choose y 6 choose y 7 end "
                "else choose y 8 end")
        root = tree(text)
        self.assertEqual([many for _, many in views_of(root, "chooser")], [6] + [7] * 6 + [5, 8])
        root = tree(text.replace("choose", "come"))
        self.assertEqual([many for _, many in views_of(root, "comer")], [6] + [7] * 6 + [5, 8])

    def test_no_views(self):
        self.assertEqual(views_of(tree(""), "chooser"), [])
        self.assertEqual(views_of(tree("var x 2 draw x 2"), "comer"), [])
        self.assertEqual(views_of(tree("var x 2 choose x 2"), "comer"), [])
        self.assertEqual(views_of(End(3), "chooser"), [])

    def test_views_of_a_tree_made_by_hand(self):
        one, two = (asked(0, 2),), (shown(4), asked(1, 1))
        root = Lot([Move("comer", two, [End(0)]), Move("chooser", one, [End(1), Move("comer", two, (End(2),))])])
        self.assertEqual(views_of(root, "chooser"), [(one, 2)])
        self.assertEqual(views_of(root, "comer"), [(two, 1)])

    def test_a_new_list_each_time(self):
        root = tree("var x 9 come x 2")
        first = views_of(root, "comer")
        first.clear()
        self.assertEqual(views_of(root, "comer"), [((asked(0, 2),), 2)])


if __name__ == "__main__":
    unittest.main()
