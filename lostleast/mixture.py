"""Mixing plans of the chooser, as much as limits let: the simplex method in whole numbers."""

from lostleast.sums import product_sum, row_sum


class Mixture:
    """Parts of columns of numbers; each step makes what they gain greater, or at least not less.

    A column has a gain, and a number for each limit. No part is negative, and for each limit the sum of the parts,
    each times the number of its column there, is at most the limit. What is left of a limit may be a part, too,
    which gains nothing.

    There are as many parts as limits. For each part `rows` has its size and its row of the inverse of the
    matrix of all parts, all of them times `whole`, which is the determinant of that matrix. So the rows consist
    of whole numbers, and no division in this class leaves a remainder.
    """

    def __init__(self, limits):
        size = len(limits)
        self.whole = 1
        self.labels = [None] * size
        self.gains = [0] * size
        self.rows = []
        for at, limit in enumerate(limits):
            self.rows.append([limit, *[1 if place == at else 0 for place in range(size)]])

    def labelled(self):
        """The labels of the columns that are parts, each with the size of its part, times whole."""
        return [(label, row[0]) for label, row in zip(self.labels, self.rows) if label is not None]

    def totals(self):
        """What all parts gain, and how much a limit that is greater by 1 adds to it, times whole."""
        return row_sum(self.rows, self.gains, len(self.rows) + 1)

    def take_in(self, label, gain, column):
        """Makes a column a part, in the place of another part."""
        self.exchange(label, gain, [product_sum(row[1:], column) for row in self.rows])

    def leave(self, at):
        """Makes what is left of a limit a part, in the place of another part."""
        self.exchange(None, 0, [row[at + 1] for row in self.rows])

    def exchange(self, label, gain, costs):
        """Takes in a new part, for which the old parts shrink at these costs, instead of the first one used up."""
        out = self.first_out(costs)
        gone = self.rows[out]
        for at, row in enumerate(list(self.rows)):
            if at != out:
                self.rows[at] = [
                    (number * costs[out] - costs[at] * other) // self.whole for number, other in zip(row, gone)
                ]
        self.labels[out] = label
        self.gains[out] = gain
        self.whole = costs[out]

    def first_out(self, costs):
        """The place of the part that is used up first."""
        first = None
        for at, cost in enumerate(costs):
            if cost > 0 and (first is None or self.is_sooner(at, first, costs)):
                first = at
        return first

    def is_sooner(self, at, first, costs):
        """Whether the part at one place is used up sooner than the one at another place.

        If both are used up at once, the rest of their rows decides. So the totals grow with each step in the
        order of lists; the same parts never come together twice, and the steps have an end.
        """
        here = [number * costs[first] for number in self.rows[at]]
        return here < [number * costs[at] for number in self.rows[first]]


class Search:
    """The search for the mixture of plans of the chooser that gains most.

    `taken` has weights of the comer's routes for each limit. The number of a plan for a limit is the limit's level
    less what the plan is paid with these weights. A plan gains 1 and what it is paid with the weights `hopes`.
    The label of a plan is the list of the weights with which it takes the chooser's routes.
    """

    def __init__(self, outline, taken, levels, limits, hopes):
        self.outline = outline
        self.taken = taken
        self.levels = levels
        self.hopes = hopes
        self.mixture = Mixture(limits)

    def take_in(self, weights):
        """Makes a plan a part; weights that are told times a number count as so many plans."""
        many = weights[0]
        worths = self.outline.worths_to_comer(weights)
        column = [many * level - product_sum(worths, routes) for level, routes in zip(self.levels, self.taken)]
        self.mixture.take_in(weights, many + product_sum(worths, self.hopes), column)

    def finish(self, loose):
        """Makes plans parts until none makes the gain greater; something may be left of so many first limits."""
        while True:
            prices = self.mixture.totals()[1:]
            lowest = min(prices[:loose])
            if lowest < 0:
                self.mixture.leave(prices.index(lowest))
                continue
            weights = row_sum([self.hopes, *self.taken], [self.mixture.whole, *prices], self.outline.comer.many)
            paid, choices = self.outline.chooser.best(self.outline.worths_to_chooser(weights))
            # This plan gains most beyond the price of its numbers. If it gains no more than that price, no plan
            # makes the gain greater.
            if product_sum(prices, self.levels) - paid >= self.mixture.whole:
                return
            self.take_in(self.outline.chooser.taken_by(choices))


def best_mixture(outline, taken, levels, limits):
    """The greatest mixture of plans of the chooser within a limit for each coming.

    `taken` tells which routes each coming takes. The number of a plan for a coming is the coming's level less
    what the plan is paid; it is above 0, or else 0 for all plans.
    """
    search = Search(outline, taken, levels, limits, [0] * outline.comer.many)
    search.finish(len(limits))
    return search.mixture
