"""What many tests need: trees of texts, short ways to write plans, and averages found the slow way."""

from fractions import Fraction
from functools import lru_cache
from itertools import product

from lostleast.game import read_game
from lostleast.plans import Plan
from lostleast.ratio import Ratio
from lostleast.tree import End, Lot, Move, tree_of, views_of


def tree(text):
    return tree_of(read_game(text))


def shape(node):
    """A node and all below it as tuples."""
    if isinstance(node, End):
        return node.paid
    if isinstance(node, Lot):
        return ("lot", *[shape(part) for part in node.parts])
    return (node.seat, node.view, *[shape(part) for part in node.parts])


def with_ends(node, paid):
    """The same tree with other ends: each is what a function tells when it is called."""
    if isinstance(node, End):
        return End(paid())
    parts = [with_ends(part, paid) for part in node.parts]
    return Lot(parts) if isinstance(node, Lot) else Move(node.seat, node.view, parts)


def count(node):
    return 1 if isinstance(node, End) else 1 + sum(count(part) for part in node.parts)


def ratio(text):
    return Ratio(*[int(part) for part in str(text).split("/")])


def ratios(text):
    return [ratio(word) for word in text.split()]


def fraction(number):
    return Fraction(number.num, number.den)


def plan(root, seat, *lots):
    """The plan with these lots, each written as a text, at the views of a seat, in order."""
    views = views_of(root, seat)
    assert len(views) == len(lots)
    return Plan([(view, ratios(text)) for (view, _), text in zip(views, lots)])


def pure(root, seat, *moves):
    """The plan that makes these moves at the views of a seat, in order."""
    views = views_of(root, seat)
    assert len(views) == len(moves)
    return Plan([(view, [Ratio(int(at == move)) for at in range(many)])
                 for (view, many), move in zip(views, moves)])


@lru_cache(100)
def all_pure(root, seat):
    """All plans without lots, the move at the last view changing first."""
    return [pure(root, seat, *moves) for moves in product(*[range(many) for _, many in views_of(root, seat)])]


def told(made):
    """The entries of a plan with the lots as text."""
    return [(view, " ".join(str(lot) for lot in lots)) for view, lots in made.entries()]


def choices(made):
    """The moves that a plan without lots makes at its views, in order."""
    found = []
    for _, lots in made.entries():
        assert sorted((lot.num, lot.den) for lot in lots) == [(0, 1)] * (len(lots) - 1) + [(1, 1)]
        found.append([lot.num for lot in lots].index(1))
    return tuple(found)


def assert_form(case, root, found):
    """That a plan and weights that were found have the form that the interface tells."""
    case.assertIsInstance(found.value, Ratio)
    case.assertIsInstance(found.plan, Plan)
    case.assertEqual([(view, len(lots)) for view, lots in found.plan.entries()], views_of(root, "chooser"))
    case.assertIs(type(found.weights), list)
    case.assertTrue(all(type(pair) is tuple and len(pair) == 2 for pair in found.weights))
    every = all_pure(root, "comer")
    places = [every.index(coming) for coming, _ in found.weights]
    case.assertEqual(places, sorted(set(places)))
    for _, weight in found.weights:
        case.assertIsInstance(weight, Ratio)
        case.assertGreater(weight.num, 0)


def no_comings(root, coming):
    """Plans that are no comings of a game with two views of the comer, but nearly this one."""
    entries = coming.entries()
    return [
        Plan(entries[::-1]), Plan(entries[:1]), Plan(entries[1:]), Plan([]),
        Plan(entries + [((("asked", 5, 2),), ratios("1 0"))]),
        Plan([entries[0], (entries[1][0], ratios("1/2 1/2"))]),
        Plan([entries[0], (entries[1][0], ratios("0 1 0"))]),
        Plan([entries[0], (entries[1][0], ratios("1"))]),
        Plan([((("asked", 5, 2),), ratios("1 0")), entries[1]]),
        pure(root, "chooser", 0),
    ]


def slow_average(root, chooser, comer):
    """The average, node by node."""
    plans = {"chooser": dict(chooser.entries()), "comer": dict(comer.entries())}

    def paid_from(node):
        if isinstance(node, End):
            return Fraction(node.paid)
        parts = [paid_from(part) for part in node.parts]
        if isinstance(node, Lot):
            return sum(parts) / len(parts)
        lots = plans[node.seat].get(node.view, ())
        if len(lots) != len(parts):
            return parts[0]
        return sum(fraction(lot) * part for lot, part in zip(lots, parts) if lot.num != 0)

    return paid_from(root)


def slow_weighted(root, chooser, pairs):
    return sum((fraction(weight) * slow_average(root, chooser, comer) for comer, weight in pairs), Fraction(0))


def slow_best(root, pairs):
    """What a best answer is paid: all plans of the chooser without lots are tried."""
    return max(slow_weighted(root, chooser, pairs) for chooser in all_pure(root, "chooser"))


@lru_cache(100)
def slow_hindsights(root):
    return [slow_best(root, [(coming, Ratio(1))]) for coming in all_pure(root, "comer")]


def slow_differences(root, chooser):
    tops = slow_hindsights(root)
    return [top - slow_average(root, chooser, coming) for top, coming in zip(tops, all_pure(root, "comer"))]
