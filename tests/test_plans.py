"""Plans (point 9): which entries make one, what it tells, when two are equal, and sure plans."""

import unittest

from lostleast.errors import BadPlan, LossError
from lostleast.plans import Plan, sure
from lostleast.ratio import Ratio
from lostleast.tree import views_of
from tests.helpers import choices, ratios, told, tree

ONE = (("asked", 0, 2),)
TWO = (("asked", 1, 3),)
THREE = (("shown", 7), ("asked", 2, 1))
HALVES = "1/2 1/2"


def made(*pairs):
    return Plan([(view, ratios(text)) for view, text in pairs])


class EntriesTest(unittest.TestCase):

    def test_entries_in_their_order(self):
        plan = made((TWO, "1/3 0 2/3"), (ONE, HALVES), (THREE, "1"))
        self.assertEqual(told(plan), [(TWO, "1/3 0 2/3"), (ONE, HALVES), (THREE, "1")])

    def test_kinds_of_what_entries_tells(self):
        entries = made((ONE, "1/4 3/4")).entries()
        self.assertIs(type(entries), list)
        self.assertIs(type(entries[0]), tuple)
        self.assertEqual(entries[0][0], ONE)
        self.assertIs(type(entries[0][1]), tuple)
        self.assertEqual(entries[0][1], (Ratio(1, 4), Ratio(3, 4)))
        self.assertIsInstance(entries[0][1][0], Ratio)

    def test_no_entries(self):
        self.assertEqual(Plan([]).entries(), [])

    def test_the_argument_by_name(self):
        self.assertEqual(told(Plan(entries=[(ONE, ratios("0 1"))])), [(ONE, "0 1")])

    def test_entries_of_a_plan_make_a_plan(self):
        plan = made((ONE, HALVES), (TWO, "1/2 1/4 1/4"))
        self.assertEqual(told(Plan(plan.entries())), told(plan))

    def test_lots_of_any_size(self):
        long = 10 ** 59 + 7
        plan = Plan([(ONE, [Ratio(1, long), Ratio(long - 1, long)]), (THREE, [Ratio(1)]), (TWO, [Ratio(1, 9)] * 9)])
        self.assertEqual(told(plan)[0], (ONE, f"1/{long} {long - 1}/{long}"))
        self.assertEqual(len(plan.entries()[2][1]), 9)

    def test_views_that_are_alike(self):
        views = [(), (("shown", 0),), (("shown", 1),), (("did", 0),), (("shown", 0), ("shown", 0)), (("asked", 0, 1),),
                 (("asked", 1, 0),), (("asked", 0, 0),)]
        plan = made(*[(view, "1") for view in views])
        self.assertEqual([view for view, _ in plan.entries()], views)


class CopiesTest(unittest.TestCase):

    def test_changes_behind_the_making_change_nothing(self):
        lots = ratios(HALVES)
        entries = [(ONE, lots), (TWO, ratios("1 0 0"))]
        plan = Plan(entries)
        lots[0] = Ratio(1)
        lots.append(Ratio(5))
        entries.pop()
        entries.append((THREE, ratios("1")))
        self.assertEqual(told(plan), [(ONE, HALVES), (TWO, "1 0 0")])

    def test_making_a_plan_changes_no_argument(self):
        lots = ratios(HALVES)
        entries = [(ONE, lots)]
        Plan(entries)
        self.assertEqual(entries, [(ONE, lots)])
        self.assertIs(type(entries[0][1]), list)
        self.assertEqual(lots, ratios(HALVES))

    def test_what_entries_returned_may_be_changed(self):
        plan = made((ONE, HALVES), (TWO, "1 0 0"))
        plan.entries().clear()
        first = plan.entries()
        first[0] = (THREE, (Ratio(1),))
        self.assertEqual(told(plan), [(ONE, HALVES), (TWO, "1 0 0")])
        self.assertIsNot(plan.entries(), plan.entries())


class BadPlanTest(unittest.TestCase):

    def assertBad(self, at, *pairs):
        with self.assertRaises(BadPlan) as caught:
            made(*pairs)
        self.assertEqual(caught.exception.at, at)
        self.assertIsInstance(caught.exception, LossError)

    def test_a_view_that_an_earlier_entry_has(self):
        self.assertBad(1, (ONE, HALVES), (ONE, HALVES))
        self.assertBad(2, (ONE, HALVES), (TWO, "1"), (ONE, "1 0"))
        self.assertBad(2, (ONE, HALVES), (TWO, "1"), (TWO, "1"), (ONE, "1 0"))

    def test_no_lots(self):
        self.assertBad(0, (ONE, ""))
        self.assertBad(1, (ONE, "1"), (TWO, ""), (THREE, "1"))

    def test_a_lot_below_0(self):
        self.assertBad(0, (ONE, "-1 2"))
        self.assertBad(0, (ONE, "2 -1"))
        self.assertBad(0, (ONE, "1/2 -1/2 1"))
        self.assertBad(1, (ONE, "1"), (TWO, "4/3 -1/3"))
        self.assertBad(0, (ONE, "-1"))

    def test_lots_of_less_than_1(self):
        self.assertBad(0, (ONE, "0"))
        self.assertBad(0, (ONE, "0 0 0"))
        self.assertBad(0, (ONE, "1/2"))
        self.assertBad(0, (ONE, "1/2 1/3"))
        self.assertBad(2, (ONE, "1"), (TWO, HALVES), (THREE, "99/100"))
        self.assertBad(0, (ONE, f"1/2 {10 ** 40 - 1}/{2 * 10 ** 40}"))

    def test_lots_of_more_than_1(self):
        self.assertBad(0, (ONE, "2"))
        self.assertBad(0, (ONE, "1 1"))
        self.assertBad(0, (ONE, "1/2 1/2 1/2"))
        self.assertBad(1, (ONE, "1"), (TWO, "101/100"))

    def test_the_first_of_several_wrong_entries(self):
        self.assertBad(1, (ONE, "1"), (TWO, "2"), (ONE, "1"), (THREE, ""))
        self.assertBad(2, (ONE, "1"), (TWO, "1"), (ONE, "1"), (THREE, "-1 2"))
        self.assertBad(0, (ONE, "-1 2"), (ONE, "1"))
        self.assertBad(1, (ONE, "1"), (ONE, "5"))

    def test_lots_that_are_right(self):
        for text in ("1", "1 0", "0 1", "0 0 1 0", HALVES, "1/3 1/3 1/3", "1/6 1/3 1/2", "999/1000 1/1000"):
            self.assertEqual(told(made((ONE, text))), [(ONE, text)])


class EqualPlansTest(unittest.TestCase):

    def test_equal_entries(self):
        self.assertTrue(made((ONE, HALVES), (TWO, "1 0 0")) == made((ONE, HALVES), (TWO, "1 0 0")))
        self.assertFalse(made((ONE, HALVES)) != made((ONE, HALVES)))
        self.assertTrue(Plan([]) == Plan([]))
        self.assertTrue(Plan([(ONE, ratios(HALVES))]) == Plan([(ONE, tuple(ratios(HALVES)))]))

    def test_other_lots(self):
        self.assertFalse(made((ONE, HALVES)) == made((ONE, "1/4 3/4")))
        self.assertFalse(made((ONE, "1 0")) == made((ONE, "0 1")))
        self.assertFalse(made((ONE, "1 0")) == made((ONE, "1")))
        self.assertFalse(made((ONE, "1 0")) == made((ONE, "1 0 0")))
        self.assertTrue(made((ONE, "1 0")) != made((ONE, "0 1")))

    def test_the_same_lots_at_another_view(self):
        self.assertFalse(made((ONE, HALVES)) == made((TWO, HALVES)))

    def test_the_same_entries_in_another_order(self):
        self.assertFalse(made((ONE, HALVES), (TWO, "1")) == made((TWO, "1"), (ONE, HALVES)))
        self.assertTrue(made((ONE, HALVES), (TWO, "1")) != made((TWO, "1"), (ONE, HALVES)))

    def test_other_things(self):
        self.assertFalse(Plan([]) == [])
        self.assertFalse(made((ONE, "1")) == [(ONE, (Ratio(1),))])
        self.assertFalse(Plan([]) == None)  # noqa: E711

    def test_an_entry_more(self):
        self.assertFalse(made((ONE, HALVES)) == made((ONE, HALVES), (TWO, "1")))
        self.assertFalse(made((ONE, HALVES), (TWO, "1")) == made((ONE, HALVES)))
        self.assertFalse(made((ONE, HALVES)) == Plan([]))


class SureTest(unittest.TestCase):

    def test_one_move_at_each_view(self):
        self.assertEqual(told(sure([(ONE, 2), (TWO, 3), (THREE, 1)], [1, 0, 0])),
                         [(ONE, "0 1"), (TWO, "1 0 0"), (THREE, "1")])
        self.assertEqual(told(sure([(TWO, 3)], [2])), [(TWO, "0 0 1")])

    def test_some_views_in_another_order(self):
        self.assertEqual(told(sure([(THREE, 1), (ONE, 8)], [0, 6])), [(THREE, "1"), (ONE, "0 0 0 0 0 0 1 0")])

    def test_no_views(self):
        self.assertEqual(sure([], []).entries(), [])

    def test_views_of_a_tree(self):
        views = views_of(tree("var x 4 choose x 2 choose x 3"), "chooser")
        self.assertEqual(choices(sure(views, [1, 2, 0])), (1, 2, 0))
        self.assertEqual([view for view, _ in sure(views, [1, 2, 0]).entries()], [view for view, _ in views])

    def test_arguments_by_name_and_unchanged(self):
        views, moves = [(ONE, 2)], [1]
        plan = sure(views=views, moves=moves)
        self.assertIsInstance(plan, Plan)
        self.assertEqual((views, moves), ([(ONE, 2)], [1]))
        views.clear()
        moves.clear()
        self.assertEqual(told(plan), [(ONE, "0 1")])


if __name__ == "__main__":
    unittest.main()
