"""Trees in whole numbers: the routes of both seats, and what the ends are worth on them.

The route of a seat is what it has done so far. As a view tells all earlier moves of its seat, a route is no
more than the last view and the move there. So what is paid on average is a sum over the ends, and a best plan
is found view by view, from the last one to the first one.
"""

from math import lcm

from lostleast.ratio import Ratio
from lostleast.tree import End, Lot


class Routes:
    """The routes of a seat by number: 0 is the one without moves; those of one view stand side by side."""

    def __init__(self):
        self.views = []
        self.starts = []
        self.befores = []
        self.places = {}
        self.many = 1

    def meet(self, view, moves, before):
        """The number of the route of move 0 at a view that is met behind another route."""
        if view not in self.places:
            self.places[view] = self.many
            self.views.append((view, moves))
            self.starts.append(self.many)
            self.befores.append(before)
            self.many += moves
        return self.places[view]

    def chances_of(self, plan):
        """For each route the product of a plan's lots for its moves."""
        chances = [Ratio(1)]
        for (view, moves), before in zip(self.views, self.befores):
            chances.extend([chances[before] * lot for lot in plan.lots_at(view, moves)])
        return chances

    def weighted_chances(self, pairs):
        """For each route the sum of its chances by some plans, each times the weight of the plan."""
        sums = [Ratio(0)] * self.many
        for plan, weight in pairs:
            sums = [total + weight * chance for total, chance in zip(sums, self.chances_of(plan))]
        return sums

    def taken_by(self, choices):
        """For each route 1 or 0: whether the plan takes it that makes these moves at the views."""
        taken = [1]
        for (_, moves), before, choice in zip(self.views, self.befores, choices):
            taken.extend([taken[before] if move == choice else 0 for move in range(moves)])
        return taken

    def best(self, worths):
        """The greatest worth that the routes of one plan have in all, and the moves of that plan at the views."""
        sums = list(worths)
        choices = []
        for at in reversed(range(len(self.views))):
            start = self.starts[at]
            ahead = sums[start:start + self.views[at][1]]
            most = max(ahead)
            choices.append(ahead.index(most))
            sums[self.befores[at]] += most
        return sums[0], choices[::-1]


class Outline:
    """A tree as routes and ends.

    An end is its worth, the chooser's route to it and the comer's. The worth is what is paid there, times the
    chance of the draws on the way, times `scale`, which makes all of them whole.
    """

    def __init__(self, tree):
        self.chooser = Routes()
        self.comer = Routes()
        found = self.walk(tree)
        self.scale = 1
        for _, results, _, _ in found:
            self.scale = lcm(self.scale, results)
        self.ends = [(paid * (self.scale // results), chooser, comer) for paid, results, chooser, comer in found]

    def walk(self, tree):
        """All ends: what is paid, how many results the draws have, and the routes of both seats."""
        found = []
        ahead = [(tree, 1, 0, 0)]
        while ahead:
            node, results, chooser, comer = ahead.pop()
            if isinstance(node, End):
                found.append((node.paid, results, chooser, comer))
                continue
            parts = list(enumerate(node.parts))[::-1]
            if isinstance(node, Lot):
                ahead.extend([(part, results * len(parts), chooser, comer) for _, part in parts])
            elif node.seat == "chooser":
                start = self.chooser.meet(node.view, len(parts), chooser)
                ahead.extend([(part, results, start + move, comer) for move, part in parts])
            else:
                start = self.comer.meet(node.view, len(parts), comer)
                ahead.extend([(part, results, chooser, start + move) for move, part in parts])
        return found

    def worths_to_chooser(self, weights):
        """What each route of the chooser is worth if the comer's routes have these weights."""
        worths = [0] * self.chooser.many
        for worth, chooser, comer in self.ends:
            worths[chooser] += worth * weights[comer]
        return worths

    def worths_to_comer(self, weights):
        """What each route of the comer is worth if the chooser's routes have these weights."""
        worths = [0] * self.comer.many
        for worth, chooser, comer in self.ends:
            worths[comer] += worth * weights[chooser]
        return worths
