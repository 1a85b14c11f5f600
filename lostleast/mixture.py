"""Mixing plans of the chooser, as much as limits let: the simplex method in whole numbers."""

from lostleast.sums import product_sum, row_sum


class Mixture:
    """Parts of columns of numbers; each step makes their sum greater, or at least not less.

    A column has a number for each limit. No part is negative, and for each limit the sum of the parts, each
    times the number of its column there, is at most the limit. What is left of a limit may be a part, too.

    There are as many parts as limits. For each part `rows` has its size and its row of the inverse of the
    matrix of all parts, all of them times `whole`, which is the determinant of that matrix. So the rows consist
    of whole numbers, and no division in this class leaves a remainder.
    """

    def __init__(self, limits):
        size = len(limits)
        self.whole = 1
        self.labels = [None] * size
        self.rows = []
        for at, limit in enumerate(limits):
            self.rows.append([limit, *[1 if place == at else 0 for place in range(size)]])

    def labelled(self):
        """The labels of the columns that are parts, each with the size of its part, times whole."""
        return [(label, row[0]) for label, row in zip(self.labels, self.rows) if label is not None]

    def totals(self):
        """The sum of the parts of columns, and how much a limit that is greater by 1 adds to it, times whole."""
        counted = [0 if label is None else 1 for label in self.labels]
        return row_sum(self.rows, counted, len(self.rows) + 1)

    def take_in(self, label, column):
        """Makes a column a part, in the place of another part."""
        self.exchange(label, [product_sum(row[1:], column) for row in self.rows])

    def leave(self, at):
        """Makes what is left of a limit a part, in the place of another part."""
        self.exchange(None, [row[at + 1] for row in self.rows])

    def exchange(self, label, costs):
        """Takes in a new part, for which the old parts shrink at these costs, instead of the first one used up."""
        out = self.first_out(costs)
        gone = self.rows[out]
        for at, row in enumerate(list(self.rows)):
            if at != out:
                self.rows[at] = [
                    (number * costs[out] - costs[at] * other) // self.whole for number, other in zip(row, gone)
                ]
        self.labels[out] = label
        self.whole = costs[out]

    def first_out(self, costs):
        """The place of the part that is used up first."""
        first = None
        for at, cost in enumerate(costs):
            if cost > 0 and (first is None or self.is_sooner(at, first, costs)):
                first = at
        return first

    def is_sooner(self, at, first, costs):
        """Whether the part at one place is used up sooner than the one at another place.

        If both are used up at once, the rest of their rows decides. So the totals grow with each step in the
        order of lists; the same parts never come together twice, and the steps have an end.
        """
        here = [number * costs[first] for number in self.rows[at]]
        return here < [number * costs[at] for number in self.rows[first]]


def best_mixture(outline, taken, levels, limits):
    """The greatest mixture of plans of the chooser within a limit for each coming.

    `taken` tells which routes each coming takes. The number of a plan for a coming is the coming's level less
    what the plan is paid; it is above 0, or else 0 for all plans. The labels are the moves of the plans at all
    views.
    """
    mixture = Mixture(limits)
    while True:
        prices = mixture.totals()[1:]
        lowest = min(prices)
        if lowest < 0:
            mixture.leave(prices.index(lowest))
            continue
        weights = row_sum(taken, prices, outline.comer.many)
        paid, choices = outline.chooser.best(outline.worths_to_chooser(weights))
        # The numbers of the plan that is paid most have the lowest price in all. If even this price is not below
        # that of a part, which is whole, no plan makes the sum greater.
        if product_sum(prices, levels) - paid >= mixture.whole:
            return mixture
        worths = outline.worths_to_comer(outline.chooser.taken_by(choices))
        mixture.take_in(choices, [level - product_sum(worths, routes) for level, routes in zip(levels, taken)])
