"""Trusted values (points 20 and 21): what can be trusted if a plan of the comer is expected, and when no plan can."""

import random
import unittest

from lostleast.errors import LossError, NoPlan
from lostleast.least import least_regret, regret_of
from lostleast.plans import Answer, Plan, comings
from lostleast.ratio import Ratio
from lostleast.tree import End, Lot, Move, views_of
from lostleast.trust import Trusted, most_trusted, trust_holds
from tests.games import SMALL, plans_in, random_trees
from tests.helpers import (
    all_pure, assert_form, choices, fraction, plan, pure, ratio, ratios, slow_average, slow_best, slow_differences,
    slow_hindsights, told, tree, with_ends)
from tests.test_average import random_plan

GUESS = "var x 2 var y 2 come x 2 choose y 2 if = x y pay 1 end"
MATCH = "var x 3 var y 3 come x 3 choose y 3 if = x y pay + 1 x end"
TINY = Ratio(1, 10 ** 30)
FAR = Ratio(10 ** 12)
ELSEWHERE = (("shown", 77), ("asked", 9, 2))


class TrustedTest(unittest.TestCase):

    def test_fields(self):
        made, coming = Plan([]), Plan([])
        trusted = Trusted(Ratio(-1, 2), made, [(coming, Ratio(2))])
        self.assertEqual(str(trusted.value), "-1/2")
        self.assertIs(trusted.plan, made)
        self.assertIs(type(trusted.weights), list)
        self.assertEqual(trusted.weights, [(coming, Ratio(2))])
        trusted = Trusted(weights=[], plan=made, value=Ratio(0))
        self.assertEqual((str(trusted.value), trusted.weights), ("0", []))

    def test_weights_is_a_copy(self):
        weights = [(Plan([]), Ratio(2))]
        trusted = Trusted(Ratio(0), Plan([]), weights)
        weights.clear()
        self.assertEqual(len(trusted.weights), 1)
        trusted.weights.clear()
        self.assertEqual(weights, [])


class TrustTestCase(unittest.TestCase):

    def assertTrusted(self, root, expected, most, value=None):
        """That what can be trusted is right, found the slow way, and that it is the value."""
        found = most_trusted(root, expected, most)
        self.assertIsInstance(found, Trusted)
        assert_form(self, root, found)
        self.assertEqual(slow_average(root, found.plan, expected), fraction(found.value))
        self.assertLessEqual(max(slow_differences(root, found.plan)), fraction(most))
        self.assertEqual(slow_shown(root, expected, most, found.weights), fraction(found.value))
        self.assertIs(trust_holds(root, expected, most, found), True)
        best = slow_best(root, [(expected, Ratio(1))])
        self.assertLessEqual(fraction(found.value), best)
        self.assertEqual(found.weights == [], fraction(found.value) == best)
        for chooser in all_pure(root, "chooser")[:30]:
            if max(slow_differences(root, chooser)) <= fraction(most):
                self.assertLessEqual(slow_average(root, chooser, expected), fraction(found.value))
        if value is not None:
            self.assertEqual(str(found.value), str(value))
        return found

    def assertNoPlan(self, root, expected, most, least):
        with self.assertRaises(NoPlan) as caught:
            most_trusted(root, expected, most)
        self.assertIsInstance(caught.exception, LossError)
        self.assertIsInstance(caught.exception.least, Ratio)
        self.assertEqual(str(caught.exception.least), str(least))


def slow_shown(root, expected, most, weights):
    """What point 21 tells of weights, found the slow way."""
    tops, every = slow_hindsights(root), all_pure(root, "comer")
    lost = sum(fraction(weight) * (tops[every.index(coming)] - fraction(most)) for coming, weight in weights)
    return slow_best(root, [(expected, Ratio(1)), *weights]) - lost


class MostTrustedTest(TrustTestCase):

    def test_one_of_two(self):
        root = tree(GUESS)
        zero = pure(root, "comer", 0)
        found = self.assertTrusted(root, zero, ratio("3/4"), "3/4")
        self.assertEqual(told(found.plan), [((("asked", 1, 2),), "3/4 1/4")])
        self.assertEqual([(choices(coming), str(weight)) for coming, weight in found.weights], [((1,), "1")])
        self.assertTrusted(root, zero, ratio("1/2"), "1/2")
        self.assertTrusted(root, zero, Ratio(1), "1")
        self.assertTrusted(root, pure(root, "comer", 1), ratio("2/3"), "2/3")
        self.assertTrusted(root, Plan([]), ratio("3/4"), "3/4")

    def test_one_of_three(self):
        root = tree(MATCH)
        found = self.assertTrusted(root, pure(root, "comer", 0), ratio("3/2"), "1/4")
        self.assertEqual(told(found.plan), [((("asked", 1, 3),), "1/4 1/4 1/2")])
        self.assertEqual([(choices(coming), str(weight)) for coming, weight in found.weights],
                         [((1,), "1/2"), ((2,), "1/3")])
        found = self.assertTrusted(root, plan(root, "comer", "1/2 1/2 0"), ratio("9/5"), "3/5")
        self.assertEqual(told(found.plan), [((("asked", 1, 3),), "0 3/5 2/5")])

    def test_at_the_least_regret(self):
        root = tree(MATCH)
        for expected, value in (((0,), "0"), ((1,), "4/5"), ((2,), "9/5")):
            found = self.assertTrusted(root, pure(root, "comer", *expected), ratio("6/5"), value)
            self.assertEqual(told(found.plan), [((("asked", 1, 3),), "0 2/5 3/5")])

    def test_a_little_above_the_least_regret(self):
        root = tree(MATCH)
        least = self.assertTrusted(root, pure(root, "comer", 0), ratio("6/5"))
        more = self.assertTrusted(root, pure(root, "comer", 0), ratio("6/5") + TINY)
        self.assertTrue(least.value.less(more.value))
        self.assertTrusted(root, pure(root, "comer", 0), ratio("6/5") + Ratio(10 ** 59 + 7, 10 ** 60 + 7))

    def test_where_the_bound_begins_to_matter(self):
        root = tree(GUESS)
        self.assertTrusted(root, plan(root, "comer", "1/4 3/4"), Ratio(1), "3/4")
        self.assertTrusted(root, plan(root, "comer", "1/4 3/4"), Ratio(1) - TINY)
        # Both moves are best answers to what is expected, and the least regret allows a lot over them.
        for most in (ratio("1/2"), ratio("3/5"), Ratio(1)):
            found = self.assertTrusted(root, plan(root, "comer", "1/2 1/2"), most, "1/2")
            self.assertEqual(found.weights, [])

    def test_no_plan(self):
        root = tree(MATCH)
        for most in (ratio("6/5") - TINY, Ratio(1), Ratio(0), Ratio(0) - TINY, Ratio(-1, 2), Ratio(-5)):
            self.assertNoPlan(root, pure(root, "comer", 0), most, "6/5")
            self.assertNoPlan(tree(MATCH), Plan([]), most, "6/5")
        for text in ("", "pay 4", "take 4", "var x 3 draw x 3 pay x", "var x 3 choose x 3 pay x"):
            self.assertNoPlan(tree(text), Plan([]), Ratio(-1, 100), "0")
            self.assertNoPlan(tree(text), Plan([]), Ratio(-7), "0")

    def test_games_without_moves(self):
        for text, value in (("", "0"), ("pay 4", "4"), ("take 4", "-4"), ("var x 3 draw x 3 pay x", "1")):
            for most in (Ratio(0), Ratio(1, 3), FAR):
                found = self.assertTrusted(tree(text), Plan([]), most, value)
                self.assertEqual((found.plan.entries(), found.weights), ([], []))
        self.assertTrusted(End(-3), Plan([]), Ratio(0), "-3")

    def test_games_with_moves_of_one_seat(self):
        root = tree("var x 9 choose x 3 pay x")
        for most in (Ratio(0), Ratio(1, 2), FAR):
            found = self.assertTrusted(root, Plan([]), most, "2")
            self.assertEqual(choices(found.plan), (2,))
        root = tree("var x 9 come x 3 pay x")
        for most in (Ratio(0), Ratio(1, 2), FAR):
            self.assertTrusted(root, pure(root, "comer", 1), most, "1")
            self.assertTrusted(root, plan(root, "comer", "1/2 0 1/2"), most, "1")

    def test_moves_with_one_part(self):
        root = tree("var x 9 var y 9 come x 1 choose y 1 come x 2 choose y 2 choose x 1 if = x y pay 4 end pay y")
        least = least_regret(root).value
        for most in (least, least + TINY, FAR):
            self.assertTrusted(root, pure(root, "comer", *[0] * views_count(root, "comer")), most)

    def test_negative_ends(self):
        root = tree("var x 9 var y 9 come x 2 choose y 2 if = x y take 5 else take 8 end")
        found = self.assertTrusted(root, pure(root, "comer", 0), ratio("2"), "-6")
        self.assertEqual(told(found.plan), [((("asked", 1, 2),), "2/3 1/3")])

    def test_sixteen_comings(self):
        for text in ("var x 9 var y 9 draw y 4 show comer y come x 2 choose y 3 pay mod * + 1 x + 2 * 3 y 7",
                     "var x 9 var y 9 draw y 2 show comer y come x 4 choose y 3 pay mod * + 1 x + 2 * 3 y 11"):
            root = tree(text)
            self.assertEqual(len(comings(root)), 16)
            least = least_regret(root).value
            for expected in (pure(root, "comer", *[1] * views_count(root, "comer")), Plan([])):
                for most in (least, least + ratio("1/7"), least + Ratio(1), FAR):
                    self.assertTrusted(root, expected, most)

    def test_expected_plans_that_leave_views_out(self):
        root = tree("var x 9 var y 9 draw y 2 show comer y come x 3 choose y 3 if = x y pay 3 else pay < x y end")
        (first, _), (second, _) = views_of(root, "comer")
        least = least_regret(root).value
        for entries in ([], [(second, ratios("0 1/3 2/3"))], [(first, ratios("0 1")), (second, ratios("0 0 1"))],
                        [(ELSEWHERE, ratios("0 1"))], [(second, ratios("1/2 1/2 0")), (ELSEWHERE, ratios("1"))],
                        [(second, ratios("0 0 0 1")), (first, ratios("0 0 1"))]):
            for most in (least, least + ratio("1/9"), FAR):
                self.assertTrusted(root, Plan(entries), most)
        names_all = Plan([(first, ratios("1 0 0")), (second, ratios("0 1/3 2/3"))])
        left_out = Plan([(ELSEWHERE, ratios("0 1")), (second, ratios("0 1/3 2/3"))])
        for most in (least, least + ratio("1/9"), FAR):
            self.assertEqual(str(most_trusted(root, names_all, most).value),
                             str(most_trusted(root, left_out, most).value))

    def test_lots_with_many_digits(self):
        root = tree(MATCH)
        many = 10 ** 59 + 7
        lots = [Ratio(many // 3, many), Ratio(1, many), Ratio(many - many // 3 - 1, many)]
        expected = Plan([((("asked", 0, 3),), lots)])
        for most in (ratio("6/5"), ratio("6/5") + Ratio(many - 8, 7 * many), ratio("7/5"), FAR):
            self.assertTrusted(root, expected, most)

    def test_trees_made_by_hand(self):
        one, two = (("asked", 0, 2),), (("asked", 1, 2),)
        first, second = Move("chooser", two, [End(6), End(0)]), Move("chooser", two, [End(0), End(2)])
        root = Lot([Move("comer", one, [first, second]), End(4)])
        # Hindsight is 5 or 3; the plan that makes move 0 is paid 5 or 2, its regret is 1.
        self.assertTrusted(root, pure(root, "comer", 0), Ratio(1), "5")
        self.assertTrusted(root, pure(root, "comer", 0), ratio("3/4"), "17/4")
        self.assertNoPlan(root, pure(root, "comer", 0), ratio("3/4") - TINY, "3/4")

    def test_arguments_by_name_that_stay(self):
        root = tree(MATCH)
        expected = plan(root, "comer", "1/3 1/3 1/3")
        most = ratio("3/2")
        entries = expected.entries()
        found = most_trusted(tree=root, expected=expected, most=most)
        found.weights.clear()
        self.assertEqual((expected.entries(), str(most)), (entries, "3/2"))
        again = most_trusted(root, expected, most)
        self.assertEqual(str(again.value), str(found.value))
        self.assertIs(trust_holds(tree=root, expected=expected, most=most, found=again), True)

    def test_asked_in_turn(self):
        # Other bounds, other expected plans and another game with the same moves stand between the same questions.
        root, other = tree(MATCH), tree(MATCH.replace("+ 1 x", "- 3 x"))
        asked = [(one, expected, ratio(most)) for one in (root, other) for expected in all_pure(one, "comer")
                 for most in ("6/5", "3/2", "7/3", "9")]
        first = [str(most_trusted(one, expected, most).value) for one, expected, most in asked]
        random.Random(3).shuffle(asked)
        again = {(one is root, choices(expected), str(most)): str(most_trusted(one, expected, most).value)
                 for one, expected, most in asked}
        self.assertEqual(sorted(first), sorted(again.values()))
        for one, expected, most in asked:
            fresh = tree(MATCH if one is root else MATCH.replace("+ 1 x", "- 3 x"))
            self.assertEqual(str(most_trusted(fresh, expected, most).value),
                             again[one is root, choices(expected), str(most)])
            least_regret(one)

    def test_other_answers_stay_as_they_are(self):
        root = tree(MATCH)
        before = least_regret(root)
        most_trusted(root, pure(root, "comer", 0), ratio("3/2"))
        after = least_regret(root)
        self.assertEqual((str(before.value), told(before.plan)), (str(after.value), told(after.plan)))


def views_count(root, seat):
    """How many views a seat has."""
    return len(views_of(root, seat))


class ManyGamesTest(TrustTestCase):

    def assertGame(self, root, rng, farther):
        """That all bounds are answered rightly for one game and an expected plan; tells the values."""
        expected = random_plan(root, "comer", rng)
        if rng.random() < 0.3:
            expected = rng.choice(all_pure(root, "comer"))
        if rng.random() < 0.3:
            expected = Plan(expected.entries() + [(ELSEWHERE, ratios("1/4 3/4"))])
        # Below the least regret no plan does, also on a tree of which nothing was asked before.
        least = self.assertBelow(root, expected)
        values = [self.assertTrusted(root, expected, most).value
                  for most in (least, least + TINY, least + ratio(farther), least * Ratio(3, 2), FAR)]
        for less, more in (values[:2], values[1:3], values[2:5:2], values[3:]):
            self.assertFalse(more.less(less))
        self.assertEqual(fraction(values[-1]), slow_best(root, [(expected, Ratio(1))]))
        # With the regret of a best answer to what is expected the bound just does not matter.
        best = regret_of(root, Answer(root, [(expected, Ratio(1))]).plan())
        self.assertEqual(self.assertTrusted(root, expected, best).weights, [])
        return [str(value) for value in values]

    def assertBelow(self, root, expected):
        with self.assertRaises(NoPlan) as caught:
            most_trusted(root, expected, Ratio(-1))
        least = caught.exception.least
        self.assertEqual(str(least), str(least_regret(root).value))
        self.assertNoPlan(root, expected, least - TINY, least)
        if least.num > 0:
            self.assertNoPlan(root, expected, Ratio(0), least)
            self.assertNoPlan(root, expected, least * Ratio(1, 2), least)
        return least

    def assertGames(self, games, seed):
        rng = random.Random(seed)
        different = 0
        for text, root in games:
            if plans_in(root, "comer") > 16:
                continue
            with self.subTest(text):
                values = self.assertGame(root, rng, rng.choice(["1/7", "1/2", "2"]))
                different += len(set(values)) > 1
        return different

    def test_small_games(self):
        self.assertGames([(text, tree(text)) for text in SMALL], 91)

    def test_random_games(self):
        self.assertGreater(self.assertGames(random_trees(92, 60, most_plans=32), 93), 5)
        self.assertGreater(self.assertGames(random_trees(94, 40, most_plans=32, debts=True), 95), 5)

    def test_other_ends(self):
        rng = random.Random(96)
        games = [(text, with_ends(root, lambda: rng.randint(-high, high)))
                 for text, root in random_trees(97, 25, 32) + [(text, tree(text)) for text in SMALL if len(text) > 60]
                 for high in (1, 3, 20, 10 ** 9)]
        self.assertGreater(self.assertGames(games, 98), 40)

    def test_the_value_is_what_the_functions_of_plans_tell(self):
        rng = random.Random(99)
        for text, root in random_trees(100, 20):
            expected = random_plan(root, "comer", rng)
            most = least_regret(root).value + ratio("1/5")
            found = most_trusted(root, expected, most)
            paid = Answer(root, [(expected, Ratio(1)), *found.weights]).paid
            tops = {choices(coming): Answer(root, [(coming, Ratio(1))]).paid for coming in comings(root)}
            for coming, weight in found.weights:
                paid = paid - weight * (tops[choices(coming)] - most)
            with self.subTest(text):
                self.assertEqual(str(paid), str(found.value))


if __name__ == "__main__":
    unittest.main()
