"""What can be trusted if some plan of the comer is expected and regret is bounded, and lots over plans."""

from lostleast.chart import Chart
from lostleast.errors import NoPlan
from lostleast.least import above_0, charted_regret, mixed_plan
from lostleast.mixture import Search
from lostleast.plans import Answer, average, plan_on
from lostleast.ratio import Ratio
from lostleast.routes import Outline
from lostleast.sums import made_whole, ratio_sum


class Trusted:
    """A trusted value, a plan that is paid so much, and weighted comings that show that no plan is paid more."""

    def __init__(self, value, plan, weights):
        self.value = value
        self.plan = plan
        self.weights = list(weights)


def most_trusted(tree, expected, most):
    """The greatest average against an expected plan that some regret allows; raises NoPlan."""
    chart = Chart(tree)
    least = charted_regret(chart)
    if most.less(least.value):
        raise NoPlan(least.value)
    outline = chart.outline
    hopes, factor = made_whole(outline.comer.chances_of(expected))
    mixture = bounded_mixture(chart, least.plan, hopes, most)
    total, *prices, _ = mixture.totals()
    # The mixture has as many plans as the denominator of the bound says, and each gains 1 beside what it is paid.
    parts = mixture.whole * most.den
    value = Ratio(total - parts, parts * outline.scale * factor)
    weights = [Ratio(price, mixture.whole * factor) for price in prices]
    return Trusted(value, mixed_plan(outline.chooser, mixture), above_0(chart.comings, weights))


def bounded_mixture(chart, first, hopes, most):
    """The mixture of plans, with at most so much regret, that is paid most with the weights `hopes`.

    `first` is a plan with no more regret than that.
    """
    outline = chart.outline
    # A plan's number for a coming is its difference. For one more limit it is 1, and nothing of this limit may be
    # left. It stands last: of limits that are used up at once the last one counts. So the first plan uses it up,
    # and the comings keep no price where the bound does not matter.
    taken = [*chart.taken, [0] * outline.comer.many]
    limits = [most.num * outline.scale] * len(chart.taken) + [most.den]
    search = Search(outline, taken, [*chart.tops, 1], limits, hopes)
    weights, _ = made_whole(outline.chooser.chances_of(first))
    search.take_in(weights)
    search.finish(len(chart.taken))
    return search.mixture


def trust_holds(tree, expected, most, found):
    """Whether a trusted value is shown by its own plan and weights."""
    chart = Chart(tree)
    if not chart.fits(found.weights) or average(tree, found.plan, expected) != found.value:
        return False
    if most.less(chart.regret(found.plan)):
        return False
    paid = Answer(tree, [(expected, Ratio(1)), *found.weights]).paid
    bounds = ratio_sum([weight * most for _, weight in found.weights])
    return not found.value.less(paid - (chart.weighted_hindsight(found.weights) - bounds))


def blended(tree, pairs):
    """The plan that is paid like a lot over plans of the chooser with weights."""
    routes = Outline(tree).chooser
    weights, _ = made_whole(routes.weighted_chances(pairs))
    return plan_on(routes, weights)
