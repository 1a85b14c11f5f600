"""All that a game's comings are compared by."""

from lostleast.plans import coming_choices, sure
from lostleast.ratio import Ratio
from lostleast.routes import Outline
from lostleast.sums import made_whole, product_sum, ratio_sum


class Chart:
    """A tree with its comings: the routes that each of them takes, and hindsight for it.

    `tops` has the hindsights in whole numbers, times the scale of the outline. Raises TooLarge.
    """

    def __init__(self, tree):
        self.outline = Outline(tree)
        comer = self.outline.comer
        choices = coming_choices(comer.views)
        self.comings = [sure(comer.views, moves) for moves in choices]
        self.taken = [comer.taken_by(moves) for moves in choices]
        self.tops = [self.top(routes) for routes in self.taken]
        self.hindsights = [Ratio(top, self.outline.scale) for top in self.tops]

    def top(self, routes):
        """What a best answer is paid if the comer takes these routes."""
        paid, _ = self.outline.chooser.best(self.outline.worths_to_chooser(routes))
        return paid

    def averages(self, plan):
        """What a plan of the chooser is paid on average with each coming."""
        weights, factor = made_whole(self.outline.chooser.chances_of(plan))
        worths = self.outline.worths_to_comer(weights)
        return [Ratio(product_sum(worths, routes), self.outline.scale * factor) for routes in self.taken]

    def differences(self, plan):
        """Hindsight less the average of a plan, for each coming."""
        return [top - paid for top, paid in zip(self.hindsights, self.averages(plan))]

    def regret(self, plan):
        """The greatest difference of a plan."""
        greatest, *others = self.differences(plan)
        for difference in others:
            if greatest.less(difference):
                greatest = difference
        return greatest

    def fits(self, pairs):
        """Whether pairs consist of comings of the game and of weights that are not negative."""
        for coming, weight in pairs:
            if weight.num < 0 or coming not in self.comings:
                return False
        return True

    def weighted_hindsight(self, pairs):
        """The sum of hindsights for comings, each times its weight."""
        return ratio_sum([weight * self.hindsights[self.comings.index(coming)] for coming, weight in pairs])
