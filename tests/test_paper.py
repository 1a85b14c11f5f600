"""Papers (point 18): the lines that write what was found, and lines that write nothing."""

import unittest

from lostleast.errors import BadPaper, LossError
from lostleast.least import Found, greatest_share, holds, least_regret
from lostleast.paper import paper_lines, read_paper
from lostleast.plans import Plan
from lostleast.ratio import Ratio
from lostleast.tree import End, Lot, Move, ends_of, views_of
from tests.games import SMALL, WITHOUT_SHARE, random_trees
from tests.helpers import choices, plan, pure, ratio, ratios, told, tree

MATCH = "var x 3 var y 3 come x 3 choose y 3 if = x y pay + 1 x end"
# The chooser has three views, with 2, 3 and 3 moves; the comer two, with 2 and 4.
LARGE = "var x 9 var y 9 choose x 2 show comer x if x come y 4 else come y 2 end choose y 3 pay y"
RIGHT = ["share 1/3", "1/2 1/2", "0 1/3 2/3", "1 0 0", "1/9 1 3", "2 0 0"]
LONG = 10 ** 59 + 7
LONGER = 10 ** 60 + 7


class PaperLinesTest(unittest.TestCase):

    def test_small_examples(self):
        root = tree("var x 2 var y 2 come x 2 choose y 2 if = x y pay 1 end")
        self.assertEqual(paper_lines(root, least_regret(root)), ["regret 1/2", "1/2 1/2", "1/2 0", "1/2 1"])
        self.assertEqual(paper_lines(root, greatest_share(root)), ["share 1/2", "1/2 1/2", "1/2 0", "1/2 1"])
        root = tree(MATCH)
        self.assertEqual(paper_lines(root, least_regret(root)), ["regret 6/5", "0 2/5 3/5", "3/5 1", "2/5 2"])
        self.assertEqual(paper_lines(tree=root, found=greatest_share(root)),
                         ["share 1/3", "1/3 1/3 1/3", "1/3 0", "1/6 1", "1/9 2"])

    def test_whole_values_and_lots(self):
        root = tree(LARGE)
        made = Found("regret", Ratio(12), plan(root, "chooser", "0 1", "1 0 0", "0 0 1"),
                     [(pure(root, "comer", 1, 3), Ratio(2)), (pure(root, "comer", 0, 0), Ratio(1))])
        self.assertEqual(paper_lines(root, made), ["regret 12", "0 1", "1 0 0", "0 0 1", "2 1 3", "1 0 0"])
        made.value = Ratio(0)
        self.assertEqual(paper_lines(root, made)[0], "regret 0")

    def test_values_and_lots_that_are_not_whole(self):
        root = tree(LARGE)
        made = Found("share", Ratio(22, 7), plan(root, "chooser", "1/2 1/2", "1/3 0 2/3", "1/6 1/3 1/2"),
                     [(pure(root, "comer", 0, 2), Ratio(5, 15)), (pure(root, "comer", 1, 1), Ratio(7, 2))])
        self.assertEqual(paper_lines(root, made), [
            "share 22/7", "1/2 1/2", "1/3 0 2/3", "1/6 1/3 1/2", "1/3 0 2", "7/2 1 1"])

    def test_the_plan_in_the_order_of_the_views(self):
        root = tree(LARGE)
        made = plan(root, "chooser", "1/2 1/2", "1/3 0 2/3", "1/6 1/3 1/2")
        turned = Plan(made.entries()[::-1])
        self.assertEqual(paper_lines(root, Found("share", Ratio(1), turned, [])),
                         ["share 1", "1/2 1/2", "1/3 0 2/3", "1/6 1/3 1/2"])

    def test_a_plan_that_leaves_views_out(self):
        root = tree(LARGE)
        made = Plan(plan(root, "chooser", "1/2 1/2", "1/3 0 2/3", "1/6 1/3 1/2").entries()[1:2])
        self.assertEqual(paper_lines(root, Found("share", Ratio(1), made, [])),
                         ["share 1", "1 0", "1/3 0 2/3", "1 0 0"])
        self.assertEqual(paper_lines(root, Found("share", Ratio(1), Plan([]), [])),
                         ["share 1", "1 0", "1 0 0", "1 0 0"])

    def test_a_wrong_number_of_lots(self):
        root = tree(LARGE)
        made = plan(root, "chooser", "0 0 1", "1/2 1/2", "0 0 0 1")
        self.assertEqual(paper_lines(root, Found("share", Ratio(1), made, [])), ["share 1", "1 0", "1 0 0", "1 0 0"])

    def test_views_that_the_game_has_not(self):
        root = tree("var x 9 choose x 2")
        made = Plan([((("asked", 4, 2),), ratios("0 1")), ((("asked", 0, 2),), ratios("1/4 3/4"))])
        self.assertEqual(paper_lines(root, Found("regret", Ratio(1), made, [])), ["regret 1", "1/4 3/4"])

    def test_no_pairs(self):
        self.assertEqual(paper_lines(tree(MATCH), Found("regret", Ratio(3, 2), Plan([]), [])), ["regret 3/2", "1 0 0"])

    def test_no_views(self):
        root = tree("pay 5")
        self.assertEqual(paper_lines(root, Found("regret", Ratio(3, 2), Plan([]), [])), ["regret 3/2"])
        self.assertEqual(paper_lines(root, least_regret(root)), ["regret 0", "1"])
        self.assertEqual(paper_lines(root, greatest_share(root)), ["share 1", "1/5"])

    def test_views_of_one_seat(self):
        root = tree("var x 9 choose x 2 pay x")
        self.assertEqual(paper_lines(root, least_regret(root)), ["regret 0", "0 1", "1"])
        root = tree("var x 9 come x 2 pay 5")
        found = Found("regret", Ratio(0), Plan([]), [(pure(root, "comer", 1), Ratio(1))])
        self.assertEqual(paper_lines(root, found), ["regret 0", "1 1"])

    def test_moves_with_one_part(self):
        root = tree("var x 9 choose x 1 come x 1 pay 2")
        self.assertEqual(paper_lines(root, greatest_share(root)), ["share 1", "1", "1/2 0"])

    def test_a_coming_with_several_lines(self):
        root = tree(MATCH)
        pairs = [(pure(root, "comer", 2), ratio("1/4")), (pure(root, "comer", 0), ratio("1/2")),
                 (pure(root, "comer", 2), ratio("1/4"))]
        self.assertEqual(paper_lines(root, Found("regret", Ratio(0), Plan([]), pairs)),
                         ["regret 0", "1 0 0", "1/4 2", "1/2 0", "1/4 2"])

    def test_fractions_of_more_than_60_digits_are_written(self):
        root = tree("pay 1")
        made = Found("regret", Ratio(LONGER, 2), Plan([]), [(Plan([]), Ratio(1, LONGER))])
        self.assertEqual(paper_lines(root, made), [f"regret {LONGER}/2", f"1/{LONGER}"])

    def test_a_new_list_and_nothing_is_changed(self):
        root = tree(MATCH)
        found = least_regret(root)
        entries, weights = found.plan.entries(), list(found.weights)
        paper_lines(root, found).clear()
        self.assertEqual(len(paper_lines(root, found)), 4)
        self.assertIs(type(paper_lines(root, found)), list)
        self.assertEqual((found.plan.entries(), found.weights), (entries, weights))


class ReadPaperTest(unittest.TestCase):

    def assertRead(self, root, lines, kind, value, entries, pairs):
        kept = list(lines)
        found = read_paper(root, lines)
        self.assertEqual(lines, kept)
        self.assertIsInstance(found, Found)
        self.assertIsInstance(found.value, Ratio)
        self.assertEqual((found.kind, str(found.value)), (kind, value))
        self.assertEqual([view for view, _ in found.plan.entries()], [view for view, _ in views_of(root, "chooser")])
        self.assertEqual([lots for _, lots in told(found.plan)], entries)
        self.assertIs(type(found.weights), list)
        self.assertTrue(all(type(pair) is tuple for pair in found.weights))
        self.assertEqual([(choices(coming), str(weight)) for coming, weight in found.weights], pairs)
        for coming, weight in found.weights:
            self.assertIsInstance(weight, Ratio)
            self.assertTrue(coming == pure(root, "comer", *choices(coming)))

    def test_all_parts(self):
        self.assertRead(tree(LARGE), RIGHT, "share", "1/3", ["1/2 1/2", "0 1/3 2/3", "1 0 0"],
                        [((1, 3), "1/9"), ((0, 0), "2")])

    def test_no_pairs_and_no_views(self):
        self.assertRead(tree(LARGE), RIGHT[:4], "share", "1/3", ["1/2 1/2", "0 1/3 2/3", "1 0 0"], [])
        self.assertRead(tree("pay 1"), ["regret 0"], "regret", "0", [], [])
        self.assertRead(tree("pay 1"), ["regret 0", "1"], "regret", "0", [], [((), "1")])
        self.assertRead(tree("var x 2 choose x 2"), ["regret 9", "0 1", "1/2", "1/3"], "regret", "9", ["0 1"],
                        [((), "1/2"), ((), "1/3")])
        self.assertRead(tree("var x 2 come x 2"), ["regret 9", "1/2 0", "1/3 1"], "regret", "9", [],
                        [((0,), "1/2"), ((1,), "1/3")])

    def test_lines_of_comings_in_any_order_and_several_of_one(self):
        lines = RIGHT[:4] + ["1 1 3", "1/2 0 0", "1 1 3", "2 1 0", "1/2 0 0"]
        self.assertRead(tree(LARGE), lines, "share", "1/3", ["1/2 1/2", "0 1/3 2/3", "1 0 0"], [
            ((1, 3), "1"), ((0, 0), "1/2"), ((1, 3), "1"), ((1, 0), "2"), ((0, 0), "1/2")])

    def test_what_need_not_hold(self):
        found = read_paper(tree(MATCH), ["share 7", "1/2 1/2 0", "100 0"])
        self.assertFalse(holds(tree(MATCH), found))

    def test_parts_of_60_digits(self):
        root = tree("var x 2 choose x 2")
        lines = [f"regret {LONG}", f"1/{LONG} {LONG - 1}/{LONG}", f"{LONG}/{LONG - 1}"]
        self.assertRead(root, lines, "regret", str(LONG), [lines[1]], [((), lines[2])])

    def test_arguments_by_name(self):
        self.assertEqual(read_paper(tree=tree("pay 1"), lines=["regret 5"]).kind, "regret")

    def test_what_was_written(self):
        games = [(text, tree(text)) for text in SMALL] + random_trees(61, 60)
        for text, root in games:
            found = [least_regret(root)]
            if text not in WITHOUT_SHARE and min(ends_of(root)) >= 0 and max(ends_of(root)) > 0:
                found.append(greatest_share(root))
            for one in found:
                with self.subTest(text):
                    again = read_paper(root, paper_lines(root, one))
                    self.assertEqual((again.kind, str(again.value)), (one.kind, str(one.value)))
                    self.assertTrue(again.plan == one.plan)
                    self.assertTrue(again.weights == one.weights)
                    self.assertTrue(holds(root, again))
                    self.assertEqual(paper_lines(root, again), paper_lines(root, one))

    def test_games_with_more_than_64_comings(self):
        root = tree("var x 9 var y 9 come x 8 come y 3 choose x 2")
        pairs = [(pure(root, "comer", 7, *[2, 1, 0, 2, 1, 0, 2, 1]), Ratio(3, 4))]
        lines = paper_lines(root, Found("regret", Ratio(5), plan(root, "chooser", "1/3 2/3"), pairs))
        self.assertEqual(lines, ["regret 5", "1/3 2/3", "3/4 7 2 1 0 2 1 0 2 1"])
        self.assertRead(root, lines, "regret", "5", ["1/3 2/3"], [((7, 2, 1, 0, 2, 1, 0, 2, 1), "3/4")])
        self.assertWrong(root, lines[:2] + ["3/4 7 2 1 0 2 1 0 2 3"], 2)

    def test_trees_made_by_hand(self):
        one, two = (("asked", 0, 12),), (("asked", 1, 2),)
        root = Lot([Move("comer", one, [End(0)] * 12), Move("chooser", two, [End(4), End(1)])])
        self.assertRead(root, ["share 1", "0 1", "1/2 10", "1/2 11"], "share", "1", ["0 1"],
                        [((10,), "1/2"), ((11,), "1/2")])
        self.assertWrong(root, ["share 1", "0 1", "1/2 12"], 2)
        self.assertWrong(root, ["share 1", "0 1", "1/2 010"], 2)

    # Lines that are wrong.

    def assertWrong(self, root, lines, at):
        with self.subTest(lines):
            kept = list(lines)
            with self.assertRaises(BadPaper) as caught:
                read_paper(root, lines)
            self.assertEqual(caught.exception.at, at)
            self.assertIsInstance(caught.exception, LossError)
            self.assertEqual(lines, kept)

    def assertWrongLine(self, at, *lines):
        """That a line is the first wrong one if it stands in the place of a right one."""
        for line in lines:
            self.assertWrong(tree(LARGE), RIGHT[:at] + [line] + RIGHT[at + 1:], at)
            self.assertWrong(tree(LARGE), RIGHT[:at] + [line], at)
            self.assertWrong(tree(LARGE), RIGHT[:at] + [line] * 7, at)

    def test_the_first_line(self):
        self.assertWrongLine(0, "", " ", "share", "share ", " share 1", "share  1", "share 1 ", "1", "1 share",
                             "Share 1", "shares 1", "regre 1", "regret1", "regret 1 1", "share 1 0", "trust 1",
                             "share regret 1", "share\t1", "share 1\n", "\nshare 1", "share share", "/ 1")
        self.assertWrongLine(0, *["regret " + word for word in self.wrong_fractions()])

    def wrong_fractions(self):
        """Words that are no fraction, or one that is not written so."""
        return ["", "-1", "-1/2", "1/-2", "+1", "1/+2", "2/4", "3/3", "10/5", "0/5", "1/1", "5/1", "0/1", "1/0", "0/0",
                "01", "00", "01/2", "1/02", "1/", "/", "/2", "1//2", "1/2/3", "1/2/", "x", "1x", "1.5", "1e3", "1_0",
                "1/1_0", "1\t", "\t1", "1\n", "1/2\n", "1\n/2", "0x1", "one", "1,5", "(1)", "1/ 2", "1 /2",
                str(LONGER), f"{LONGER}/2", f"1/{LONGER}", "0" * 61, "1" + "0" * 60, "0" * 60 + "1"]

    def test_fractions_among_lots(self):
        for word in self.wrong_fractions():
            self.assertWrongLine(1, f"1 {word}", f"{word} 1", f"0 {word}", f"{word} 0", f"1/2 {word}")
        self.assertWrongLine(1, "2/4 1/2", "1/2 2/4", "0/2 1", "1/1 0", "0 1/1", "01 0", "1 00", "-1 2", "2 -1", "+1 0")

    def test_fractions_as_weights(self):
        self.assertWrongLine(4, *[word + " 1 3" for word in self.wrong_fractions()])

    def test_the_number_of_lots(self):
        self.assertWrongLine(1, "", "1", "1 0 0", "1/2 1/4 1/4", "0 1 0")
        self.assertWrongLine(2, "", "1", "1 0", "1 0 0 0", "1/4 1/4 1/4 1/4")
        self.assertWrongLine(3, "", "1", "1/2 1/2", "0 0 0 1")

    def test_lots_that_do_not_add_up_to_1(self):
        self.assertWrongLine(1, "0 0", "1 1", "1/2 1/3", "1/2 2/3", "2 0", "0 1/2")
        self.assertWrongLine(3, "0 0 0", "1 1 1", "1/3 1/3 1/4", "1/2 1/2 1/2", f"1/2 1/2 1/{LONG}")

    def test_spaces_among_lots(self):
        self.assertWrongLine(1, " 1 0", "1 0 ", "1  0", "  ", " 0", "1 ", "1\t0", "1 0\n", "1 0\t")

    def test_weights_of_0(self):
        self.assertWrongLine(4, "0 1 3", "0 0 0")
        self.assertWrongLine(5, "0 1 3")

    def test_the_number_of_moves(self):
        self.assertWrongLine(4, "", "1", "1 1", "1 1 3 0", "1 1 3 0 0", "1/9")
        self.assertWrong(tree("var x 2 choose x 2"), ["regret 1", "0 1", "1 0"], 2)
        self.assertWrong(tree("pay 1"), ["regret 1", "1 0"], 1)
        self.assertWrong(tree("pay 1"), ["regret 1", ""], 1)
        self.assertWrong(tree("pay 1"), ["regret 1", "1", "0"], 2)

    def test_moves_that_are_too_large(self):
        self.assertWrongLine(4, "1 2 0", "1 0 4", "1 2 4", "1 8 0", "1 10 0", "1 0 10", "1 65536 0", "1 3 1")

    def test_moves_that_are_not_written_so(self):
        self.assertWrongLine(4, "1 00 0", "1 01 0", "1 0 03", "1 -1 0", "1 +1 0", "1 1/1 0", "1 1/2 0", "1 x 0",
                             "1 1_ 0", "1 0 1\n", "1 0 1\t", "1 0 0x1", "1 1. 0")

    def test_spaces_among_moves(self):
        self.assertWrongLine(4, " 1 1 3", "1 1 3 ", "1  1 3", "1 1  3", "1 1 ", "1  3", "1\t1 3", "\t1 1 3")

    def test_missing_lines(self):
        for many in range(4):
            self.assertWrong(tree(LARGE), RIGHT[:many], many)
        self.assertWrong(tree("pay 1"), [], 0)
        self.assertWrong(tree(MATCH), [], 0)

    def test_lines_that_are_there_are_asked_first(self):
        self.assertWrong(tree(LARGE), ["share"], 0)
        self.assertWrong(tree(LARGE), ["share 1", "1"], 1)
        self.assertWrong(tree(LARGE), ["shar 1", "1"], 0)
        self.assertWrong(tree(LARGE), RIGHT[:2] + ["1 0"], 2)

    def test_the_first_of_several_wrong_lines(self):
        self.assertWrong(tree(LARGE), ["x", "x", "x", "x", "x"], 0)
        self.assertWrong(tree(LARGE), RIGHT[:1] + ["x", "1 0 0", "x", "x"], 1)
        self.assertWrong(tree(LARGE), RIGHT[:4] + ["1 1 3", "x", "0 0 0"], 5)
        self.assertWrong(tree(LARGE), RIGHT + [""], 6)

    def test_a_line_of_a_view_in_the_place_of_another(self):
        self.assertWrong(tree(LARGE), [RIGHT[0], RIGHT[2], RIGHT[1], RIGHT[3]], 1)
        self.assertWrong(tree(LARGE), RIGHT[1:], 0)
        self.assertWrong(tree(LARGE), RIGHT[:3] + RIGHT[4:], 3)


if __name__ == "__main__":
    unittest.main()
