"""Plans as lines (point 25): the lines that write a plan, and lines that write none."""

import random
import unittest

from lostleast.errors import BadPaper, LossError
from lostleast.plans import Plan
from lostleast.planlines import plan_lines, read_plan
from lostleast.ratio import Ratio
from tests.games import random_trees
from tests.helpers import all_pure, ratios, told
from tests.test_average import random_plan

LONG = 10 ** 59 + 7
LONGER = 10 ** 60 + 7
RIGHT = ["at asked 0 2 do 1/2 1/2", "at shown 7 asked 1 3 do 0 1/3 2/3", "at do 1", "at did 1 shown 0 do 1 0"]
VIEWS = [(("asked", 0, 2),), (("shown", 7), ("asked", 1, 3)), (), (("did", 1), ("shown", 0))]
LOTS = ["1/2 1/2", "0 1/3 2/3", "1", "1 0"]


def made(*pairs):
    return Plan([(view, ratios(text)) for view, text in pairs])


class PlanLinesTest(unittest.TestCase):

    def assertLines(self, plan, lines):
        """That a plan is written so, and read again."""
        entries = plan.entries()
        self.assertEqual(plan_lines(plan), lines)
        self.assertEqual(plan.entries(), entries)
        self.assertIs(type(plan_lines(plan)), list)
        again = read_plan(lines)
        self.assertTrue(again == plan)
        self.assertEqual(told(again), told(plan))

    def test_no_entries(self):
        self.assertLines(Plan([]), [])

    def test_a_view_without_events(self):
        self.assertLines(made(((), "1")), ["at do 1"])
        self.assertLines(made(((), "1/2 1/2")), ["at do 1/2 1/2"])

    def test_events_in_any_order(self):
        self.assertLines(made(((("shown", 5),), "1")), ["at shown 5 do 1"])
        self.assertLines(made(((("asked", 0, 3),), "1")), ["at asked 0 3 do 1"])
        self.assertLines(made(((("did", 2),), "1")), ["at did 2 do 1"])
        self.assertLines(made(((("did", 2), ("shown", 5), ("asked", 4, 3), ("asked", 0, 0), ("did", 0)), "0 1")),
                         ["at did 2 shown 5 asked 4 3 asked 0 0 did 0 do 0 1"])
        self.assertLines(made(((("shown", 65535), ("asked", 0, 8), ("did", 7), ("asked", 1, 2)), "1")),
                         ["at shown 65535 asked 0 8 did 7 asked 1 2 do 1"])

    def test_lots(self):
        self.assertLines(made((VIEWS[0], "1 0 0")), ["at asked 0 2 do 1 0 0"])
        self.assertLines(made((VIEWS[0], "1/6 1/3 0 1/2")), ["at asked 0 2 do 1/6 1/3 0 1/2"])

    def test_several_entries_in_their_order(self):
        self.assertLines(made(*zip(VIEWS, LOTS)), RIGHT)
        self.assertLines(made(*list(zip(VIEWS, LOTS))[::-1]), RIGHT[::-1])

    def test_a_plan_of_tuples(self):
        self.assertLines(Plan([((("did", 1),), (Ratio(1, 3), Ratio(4, 6)))]), ["at did 1 do 1/3 2/3"])

    def test_sixty_digits(self):
        view = (("shown", LONG), ("asked", LONG, LONG), ("did", 10 ** 60 - 1))
        lots = [Ratio(1, LONG), Ratio(LONG - 1, LONG)]
        self.assertLines(Plan([(view, lots)]),
                         [f"at shown {LONG} asked {LONG} {LONG} did {'9' * 60} do 1/{LONG} {LONG - 1}/{LONG}"])

    def test_a_new_list_each_time(self):
        plan = made(*zip(VIEWS, LOTS))
        plan_lines(plan).clear()
        self.assertEqual(plan_lines(plan=plan), RIGHT)
        self.assertIsNot(plan_lines(plan), plan_lines(plan))

    def test_plans_of_games(self):
        rng = random.Random(131)
        for text, root in random_trees(132, 40):
            for seat in ("chooser", "comer"):
                plan = random_plan(root, seat, rng)
                with self.subTest(text):
                    self.assertLines(plan, plan_lines(plan))
                    self.assertEqual(len(plan_lines(plan)), len(plan.entries()))
                    self.assertTrue(read_plan(plan_lines(all_pure(root, seat)[-1])) == all_pure(root, seat)[-1])


class ReadPlanTest(unittest.TestCase):

    def test_what_is_read(self):
        lines = list(RIGHT)
        plan = read_plan(lines)
        self.assertEqual(lines, RIGHT)
        self.assertIsInstance(plan, Plan)
        self.assertEqual(told(plan), list(zip(VIEWS, LOTS)))
        for view, lots in plan.entries():
            self.assertIs(type(view), tuple)
            self.assertTrue(all(type(event) is tuple for event in view))
            self.assertTrue(all(type(number) is int for event in view for number in event[1:]))
            self.assertTrue(all(isinstance(lot, Ratio) for lot in lots))
        self.assertEqual(read_plan(lines=[]).entries(), [])

    def test_views_that_are_alike(self):
        lines = ["at do 1", "at shown 0 do 1", "at did 0 do 1", "at shown 0 shown 0 do 1", "at asked 0 0 do 1",
                 "at asked 0 1 do 1", "at asked 1 0 do 1", "at did 0 shown 0 do 1", "at shown 0 did 0 do 1"]
        self.assertEqual(plan_lines(read_plan(lines)), lines)
        self.assertEqual(len(read_plan(lines).entries()), len(lines))

    def assertWrong(self, lines, at):
        with self.subTest(lines):
            kept = list(lines)
            with self.assertRaises(BadPaper) as caught:
                read_plan(lines)
            self.assertEqual(caught.exception.at, at)
            self.assertIsInstance(caught.exception, LossError)
            self.assertEqual(lines, kept)

    def assertWrongLine(self, *lines):
        """That each of these lines is wrong, wherever it stands, and is the first wrong one of several."""
        for line in lines:
            self.assertWrong([line], 0)
            for at in range(len(RIGHT) + 1):
                self.assertWrong(RIGHT[:at] + [line] + RIGHT[at:], at)
            self.assertWrong(RIGHT + [line, line, "", "at do 2"], 4)

    def test_empty_lines(self):
        self.assertWrongLine("", " ", "  ", "\n", "\t")

    def test_at_and_do(self):
        self.assertWrongLine("do 1", "asked 0 2 do 1", "at 1", "at asked 0 2", "at asked 0 2 1", "at", "do", "at do",
                             "1", "shown 1", "at shown 1", "at asked 0 2 did 1 1")
        self.assertWrongLine("at at do 1", "at do do 1", "at do 1 do 1", "at do 1 at do 1", "at did 1 at do 1",
                             "at at did 1 do 1", "at did 1 do do 1", "at did 1 do 1 do", "at did 1 do 1 at",
                             "at do at 1")
        self.assertWrongLine("At do 1", "at Do 1", "at, do 1", "at did 1 so 1", "atdo 1", "at do1", "do at 1",
                             "1 do at", "did 1 at do 1", "at do 1 did 1")

    def test_no_lots(self):
        self.assertWrongLine("at do", "at did 1 do", "at asked 0 2 do ", "at do ", "at do  ")

    def test_words_in_the_wrong_place(self):
        self.assertWrongLine("at 1 do 1", "at 1 did do 1", "at did 1 2 do 1", "at did do 1", "at shown do 1",
                             "at asked do 1", "at did 5 shown do 1", "at asked 1 do 1", "at asked did 1 do 1",
                             "at asked 1 did 1 do 1", "at asked 1 2 3 do 1", "at shown 1 2 do 1",
                             "at shown shown 1 do 1", "at asked asked 1 2 do 1", "at do did 1", "at do shown",
                             "at do 1 shown 1", "at drawn 1 do 1", "at Shown 1 do 1", "at show 1 do 1",
                             "at paid 1 do 1", "at x do 1", "at shown x do 1", "at did 1/2 do 1",
                             "at asked 0 chooser do 1", "at shown1 do 1")

    def test_numbers(self):
        for word in ("00", "01", "007", "-1", "-0", "+1", "+", "1_0", "_1", "1\t", "\t1", "1\n", "\n1", "1.", "1.0",
                     "1e3", "0x1", "x", "1x", "1/2", "2/1", "1,", "", str(LONGER), "1" * 61,
                     "0" * 60, "0" * 61, "9" * 100):
            self.assertWrongLine(f"at shown {word} do 1", f"at did {word} do 1", f"at asked {word} 2 do 1",
                                 f"at asked 2 {word} do 1", f"at did 1 shown {word} did 3 do 1")

    def test_spaces(self):
        self.assertWrongLine(" at do 1", "at  do 1", "at do  1", "at do 1 ", "at do 1  0", "at did  1 do 1",
                             "at  did 1 do 1", "at did 1  do 1", "at did 1 do  1", "at did 1 do 1 ", " at did 1 do 1",
                             "at asked 0  2 do 1", "at\tdo 1", "at do\t1", "at do 1\n", "\nat do 1", "at do 1\t0",
                             "at\ndo 1", "at did 1\ndo 1", "at did\t1 do 1", "at did 1 do 1\nat do 1")

    def test_fractions(self):
        for word in ("-1", "-1/2", "1/-2", "+1", "1/+2", "2/4", "3/3", "10/5", "0/5", "1/1", "5/1", "0/1", "1/0", "0/0",
                     "01", "00", "01/2", "1/02", "1/", "/", "/2", "1//2", "1/2/3", "1/2/", "x", "1x", "1.5", "1e3",
                     "1_0", "1/1_0", "1\t", "\t1", "1\n", "1/2\n", "0x1", "", str(LONGER), f"{LONGER}/2", f"1/{LONGER}",
                     f"{LONGER}/{LONGER + 1}", "0" * 61, "0" * 60 + "1"):
            self.assertWrongLine(f"at do {word}", f"at do {word} 1", f"at do 1 {word}", f"at did 8 do 0 {word}",
                                 f"at did 8 do 1/2 {word}")
        self.assertWrongLine("at do 2/4 1/2", "at do 1/2 2/4", "at do 0/2 1", "at do 1/1 0", "at do 2 -1", "at do -1 2")

    def test_lots_that_do_not_add_up_to_1(self):
        self.assertWrongLine("at do 0", "at do 2", "at do 1/2", "at do 1 1", "at do 1/2 1/3", "at do 1/2 2/3",
                             "at do 0 0", "at did 8 do 1/2 1/2 1/2", "at did 8 do 1/3 1/3 1/4",
                             f"at did 8 do 1/2 1/2 1/{LONG}")

    def test_views_that_an_earlier_line_has(self):
        for at, line in enumerate(RIGHT):
            self.assertWrong(RIGHT + [line], 4)
            self.assertWrong([line, line], 1)
            self.assertWrong(RIGHT[:at + 1] + [line.split(" do ")[0] + " do 0 0 1"] + RIGHT[at + 1:], at + 1)
        self.assertWrong(["at do 1", "at do 1", "at do 1"], 1)

    def test_the_first_of_several_wrong_lines(self):
        # A line may be wrong in its form, in its lots, or by its view.
        form, lots, view = "at did do 1", "at did 5 do 1/2", RIGHT[0]
        for first in (form, lots, view):
            for second in (form, lots, view):
                self.assertWrong([RIGHT[0], first, second], 1)
                self.assertWrong([RIGHT[0], RIGHT[1], first, RIGHT[2], second, ""], 2)
                self.assertWrong(RIGHT + [first] + RIGHT + [second], 4)

    def test_a_wrong_line_does_not_count_as_an_earlier_one(self):
        self.assertWrong(["at do 2", "at do 1", "at do 1"], 0)


if __name__ == "__main__":
    unittest.main()
