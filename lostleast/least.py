"""Regret and share: those of a plan, and the least and the greatest ones of a game."""

from lostleast.chart import Chart
from lostleast.errors import NoShare
from lostleast.mixture import best_mixture
from lostleast.plans import Answer, plan_on
from lostleast.ratio import Ratio
from lostleast.sums import ratio_sum, row_sum
from lostleast.tree import ends_of


class Found:
    """A found value: its kind, "regret" or "share", a plan that has it, and weighted comings that show it."""

    def __init__(self, kind, value, plan, weights):
        self.kind = kind
        self.value = value
        self.plan = plan
        self.weights = list(weights)


def regret_of(tree, plan):
    """The greatest difference, over all comings, of hindsight less the average of a plan of the chooser."""
    return Chart(tree).regret(plan)


def worst_for(tree, plan):
    """The first coming with which a plan of the chooser has its regret."""
    chart = Chart(tree)
    return chart.comings[chart.differences(plan).index(chart.regret(plan))]


def share_of(tree, plan):
    """The greatest share of hindsight that a plan is paid with every coming; raises NoShare."""
    chart = Chart(tree)
    check_shares(tree, chart)
    least, *others = [paid.over(top) for paid, top in zip(chart.averages(plan), chart.hindsights) if top.num > 0]
    for share in others:
        if share.less(least):
            least = share
    return least


def check_shares(tree, chart):
    """Raises NoShare if no shares are told of a game."""
    if has_debts(tree):
        raise NoShare("negative")
    if max(chart.tops) == 0:
        raise NoShare("nothing")


def has_debts(tree):
    """Whether some end pays less than 0."""
    return min(ends_of(tree)) < 0


def least_regret(tree):
    """The least regret of a game."""
    return charted_regret(Chart(tree))


def charted_regret(chart):
    """The least regret of the game of a chart."""
    # A plan's number for a coming is its difference and 1 more, so that none is 0, and the limits are 1. If the
    # greatest mixture is grown to the sum 1, its limits grow to its regret and 1 more.
    mixture = best_mixture(chart.outline, chart.taken, [top + 1 for top in chart.tops], [1] * len(chart.tops))
    total, *prices = mixture.totals()
    value = Ratio(mixture.whole - total, total * chart.outline.scale)
    weights = [Ratio(price, total) for price in prices]
    return Found("regret", value, mixed_plan(chart.outline.chooser, mixture), above_0(chart.comings, weights))


def greatest_share(tree):
    """The greatest share of a game; raises NoShare."""
    chart = Chart(tree)
    check_shares(tree, chart)
    # A plan's number for a coming is what it lacks of twice hindsight, and the limits are hindsight. If the
    # greatest mixture is grown to the sum 1, its limits grow to hindsight times 2 less its share.
    mixture = best_mixture(chart.outline, chart.taken, [2 * top for top in chart.tops], chart.tops)
    total, *prices = mixture.totals()
    value = Ratio(2 * total - mixture.whole, total)
    weights = [Ratio(price * chart.outline.scale, total) for price in prices]
    return Found("share", value, mixed_plan(chart.outline.chooser, mixture), above_0(chart.comings, weights))


def mixed_plan(routes, mixture):
    """The plan that is paid like a lot over the plans of a mixture."""
    parts = mixture.labelled()
    return plan_on(routes, row_sum([taken for taken, _ in parts], [size for _, size in parts], routes.many))


def above_0(some, weights):
    """The pairs of a coming and its weight, without the weights that are 0."""
    return [(coming, weight) for coming, weight in zip(some, weights) if weight.num > 0]


def holds(tree, found):
    """Whether what was found is shown by its own plan and weights."""
    chart = Chart(tree)
    if not chart.fits(found.weights):
        return False
    if found.kind == "regret":
        return regret_holds(tree, chart, found)
    return found.kind == "share" and share_holds(tree, chart, found)


def regret_holds(tree, chart, found):
    total = ratio_sum([weight for _, weight in found.weights])
    if total != Ratio(1) or found.value.less(chart.regret(found.plan)):
        return False
    lost = chart.weighted_hindsight(found.weights) - Answer(tree, found.weights).paid
    return not lost.less(found.value)


def share_holds(tree, chart, found):
    if has_debts(tree) or chart.weighted_hindsight(found.weights) != Ratio(1):
        return False
    for paid, top in zip(chart.averages(found.plan), chart.hindsights):
        if paid.less(found.value * top):
            return False
    return not found.value.less(Answer(tree, found.weights).paid)
