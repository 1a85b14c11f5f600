"""The interface: names, arguments and where they are defined, and what holds over the whole program (point 1)."""

import importlib
import inspect
import unittest

from lostleast import errors
from lostleast.errors import LossError
from lostleast.game import Game, game_text, read_game
from lostleast.least import Found, greatest_share, holds, least_regret, regret_of, share_of, worst_for
from lostleast.paper import paper_lines, read_paper
from lostleast.planlines import plan_lines, read_plan
from lostleast.plans import Answer, Plan, average, comings, hindsight, sure
from lostleast.ratio import Ratio
from lostleast.rounds import repeated
from lostleast.sight import least_sights, regret_with, with_sights
from lostleast.tree import End, ends_of, tree_of, views_of
from lostleast.trust import Trusted, blended, most_trusted, trust_holds
from tests.helpers import shape, told, tree

MATCH = "var x 3 var y 3 come x 3 choose y 3 if = x y pay + 1 x end"

FUNCTIONS = {
    "game": {"read_game": "text", "game_text": "game"},
    "tree": {"tree_of": "game", "ends_of": "tree", "views_of": "tree seat"},
    "plans": {"sure": "views moves", "average": "tree chooser comer", "comings": "tree", "hindsight": "tree coming"},
    "least": {"regret_of": "tree plan", "worst_for": "tree plan", "share_of": "tree plan", "least_regret": "tree",
              "greatest_share": "tree", "holds": "tree found"},
    "paper": {"paper_lines": "tree found", "read_paper": "tree lines"},
    "sight": {"with_sights": "game sights", "regret_with": "game sights", "least_sights": "game sights aim"},
    "rounds": {"repeated": "game count"},
    "trust": {"most_trusted": "tree expected most", "trust_holds": "tree expected most found", "blended": "tree pairs"},
    "planlines": {"plan_lines": "plan", "read_plan": "lines"},
}
CLASSES = {
    "ratio": {"Ratio": ("num den", ["__add__", "__sub__", "__mul__", "__eq__", "__str__", "less", "over"])},
    "game": {"Game": ("variables block", ["__eq__"])},
    "tree": {"End": ("paid", []), "Lot": ("parts", []), "Move": ("seat view parts", [])},
    "plans": {"Plan": ("entries", ["__eq__", "entries"]), "Answer": ("tree pairs", ["plan"])},
    "least": {"Found": ("kind value plan weights", [])},
    "trust": {"Trusted": ("value plan weights", [])},
}
ATTRIBUTES = {"BadText": "at", "BadPlan": "at", "BadPaper": "at", "NoShare": "what", "TooLarge": "what",
              "NoPlan": "least"}


class InterfaceTest(unittest.TestCase):

    def assertDefined(self, module, name, parameters):
        """That a function or class is defined in a module, with these arguments."""
        found = getattr(importlib.import_module(f"lostleast.{module}"), name)
        self.assertEqual(found.__module__, f"lostleast.{module}")
        self.assertEqual(list(inspect.signature(found).parameters), parameters.split())
        return found

    def test_functions(self):
        for module, names in FUNCTIONS.items():
            for name, parameters in names.items():
                with self.subTest(module, name=name):
                    self.assertTrue(inspect.isfunction(self.assertDefined(module, name, parameters)))

    def test_classes(self):
        for module, names in CLASSES.items():
            for name, (parameters, methods) in names.items():
                with self.subTest(module, name=name):
                    found = self.assertDefined(module, name, parameters)
                    self.assertTrue(inspect.isclass(found))
                    for method in methods:
                        self.assertIn(method, vars(found))

    def test_the_denominator_may_be_left_out(self):
        self.assertEqual(inspect.signature(Ratio).parameters["den"].default, 1)

    def test_modules_import_only_from_the_package_and_what_is_allowed(self):
        for module in [*FUNCTIONS, *CLASSES, "errors"]:
            source = inspect.getsource(importlib.import_module(f"lostleast.{module}"))
            for line in source.splitlines():
                if line.startswith(("import ", "from ")):
                    self.assertRegex(line, r"^from (lostleast\.[a-z]+|math) import [A-Za-z_0-9, ]+$")


class WholeProgramTest(unittest.TestCase):

    def raised(self):
        """Each error that the program raises, with the attribute that tells what was wrong."""
        small, many = tree(MATCH), tree("var x 9 come x 8 come x 8")
        large = read_game("var x 8 come x 8 draw x 8 choose x 8")
        return [
            (lambda: read_game("pay"), "BadText", 1),
            (lambda: Plan([((), [])]), "BadPlan", 0),
            (lambda: Plan([((), [Ratio(1)]), ((), [Ratio(1)])]), "BadPlan", 1),
            (lambda: read_paper(small, ["regret 1"]), "BadPaper", 1),
            (lambda: read_plan(["at do 1", "at do"]), "BadPaper", 1),
            (lambda: read_plan(["at did 1 do 1", "at did 1 do 1"]), "BadPaper", 1),
            (lambda: share_of(tree("take 1"), Plan([])), "NoShare", "negative"),
            (lambda: greatest_share(tree("")), "NoShare", "nothing"),
            (lambda: tree_of(large), "TooLarge", "nodes"),
            (lambda: regret_with(large, []), "TooLarge", "nodes"),
            (lambda: least_sights(large, [], Ratio(0)), "TooLarge", "nodes"),
            (lambda: comings(many), "TooLarge", "comings"),
            (lambda: least_regret(many), "TooLarge", "comings"),
            (lambda: most_trusted(many, Plan([]), Ratio(0)), "TooLarge", "comings"),
            (lambda: trust_holds(many, Plan([]), Ratio(0), Trusted(Ratio(0), Plan([]), [])), "TooLarge", "comings"),
            (lambda: most_trusted(small, Plan([]), Ratio(1)), "NoPlan", Ratio(6, 5)),
        ]

    def test_errors(self):
        for call, name, expected in self.raised():
            with self.subTest(name):
                with self.assertRaises(LossError) as caught:
                    call()
                self.assertIs(type(caught.exception), getattr(errors, name))
                self.assertEqual(getattr(caught.exception, ATTRIBUTES[name]), expected)
                self.assertTrue(str(caught.exception))
        for call in (lambda: Ratio(1, 0), lambda: Ratio(1, -1), lambda: Ratio(1).over(Ratio(0))):
            with self.assertRaises(errors.BadRatio):
                call()

    def test_no_plan_with_many_digits(self):
        # The least regret may have more digits than Python writes in one number.
        least = Ratio(1, 10 ** 5000 + 1)
        self.assertIs(errors.NoPlan(least).least, least)

    def test_no_function_modifies_its_arguments(self):
        game, root = read_game(MATCH), tree(MATCH)
        views, some = views_of(root, "chooser"), comings(root)
        chooser, expected = Plan([(views[0][0], [Ratio(1, 2), Ratio(1, 2), Ratio(0)])]), some[1]
        pairs, lot = [(some[0], Ratio(1)), (expected, Ratio(2))], [(chooser, Ratio(1, 3)), (Plan([]), Ratio(2, 3))]
        shown, aim = [(1, ("variable", "x")), (0, ("number", 3))], Ratio(1, 2)
        found, trusted = least_regret(root), most_trusted(root, expected, Ratio(2))
        lines, plan_text = paper_lines(root, found), plan_lines(chooser)

        def state():
            return (game.variables, game.block, shape(root), told(chooser), told(expected),
                    [(told(one), str(weight)) for one, weight in pairs + lot], list(views), list(shown), str(aim),
                    (found.kind, str(found.value), told(found.plan), [told(one) for one, _ in found.weights]),
                    (str(trusted.value), told(trusted.plan), [told(one) for one, _ in trusted.weights]),
                    list(lines), list(plan_text), len(pairs), len(lot))

        before = state()
        for call in (lambda: game_text(game), lambda: tree_of(game), lambda: ends_of(root),
                     lambda: sure(views, [1]), lambda: average(root, chooser, expected),
                     lambda: Answer(root, pairs).plan(), lambda: hindsight(root, expected),
                     lambda: regret_of(root, chooser),
                     lambda: worst_for(root, chooser), lambda: share_of(root, chooser), lambda: least_regret(root),
                     lambda: greatest_share(root), lambda: holds(root, found), lambda: paper_lines(root, found),
                     lambda: read_paper(root, lines), lambda: with_sights(game, shown),
                     lambda: regret_with(game, shown), lambda: least_sights(game, shown, aim),
                     lambda: repeated(game, 3), lambda: most_trusted(root, expected, Ratio(2)),
                     lambda: trust_holds(root, expected, Ratio(2), trusted), lambda: blended(root, lot),
                     lambda: plan_lines(chooser), lambda: read_plan(plan_text)):
            call()
            self.assertEqual(state(), before)

    def test_copies_of_lists(self):
        variables, block, weights = [("x", 2)], [("pay", ("number", 1))], [(Plan([]), Ratio(1))]
        game = Game(variables, block)
        found, trusted = Found("regret", Ratio(0), Plan([]), weights), Trusted(Ratio(0), Plan([]), weights)
        for some in (variables, block, weights):
            some.clear()
        self.assertEqual((game.variables, game.block), ((("x", 2),), (("pay", ("number", 1)),)))
        self.assertEqual((len(found.weights), len(trusted.weights)), (1, 1))

    def test_lists_that_are_returned_are_new_ones(self):
        game, root = read_game(MATCH), tree(MATCH)
        chooser, found = sure(views_of(root, "chooser"), [1]), least_regret(root)
        for call in (lambda: ends_of(root), lambda: views_of(root, "comer"), lambda: comings(root),
                     chooser.entries, lambda: paper_lines(root, found), lambda: plan_lines(chooser),
                     lambda: least_sights(game, [(1, ("variable", "x"))], Ratio(0)),
                     lambda: least_regret(root).weights,
                     lambda: most_trusted(root, comings(root)[0], Ratio(6, 5)).weights,
                     lambda: Answer(root, []).plan().entries()):
            first = call()
            self.assertIs(type(first), list)
            many = len(first)
            self.assertGreater(many, 0)
            first.clear()
            self.assertEqual(len(call()), many)

    def test_fractions_are_ratios_in_lowest_terms(self):
        root = tree(MATCH)
        trusted = most_trusted(root, comings(root)[0], Ratio(3, 2))
        told_ratios = [trusted.value, *[weight for _, weight in trusted.weights], regret_with(read_game(MATCH), [])]
        for _, lots in trusted.plan.entries() + blended(root, [(trusted.plan, Ratio(1))]).entries():
            told_ratios.extend(lots)
        for one in told_ratios:
            self.assertIsInstance(one, Ratio)
            again = Ratio(one.num, one.den)
            self.assertEqual((one.num, one.den), (again.num, again.den))
        self.assertEqual((Ratio(0, 7).num, Ratio(0, 7).den), (0, 1))
        zero = most_trusted(End(0), Plan([]), Ratio(5)).value
        self.assertEqual((zero.num, zero.den), (0, 1))


if __name__ == "__main__":
    unittest.main()
