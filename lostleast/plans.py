"""Plans, their averages, the comings, and best answers."""

from lostleast.errors import BadPlan, TooLarge
from lostleast.ratio import Ratio
from lostleast.routes import Outline
from lostleast.sums import made_whole, product_sum
from lostleast.tree import views_of

MOST_COMINGS = 64


class Plan:
    """A plan of a seat: its lots at some views."""

    def __init__(self, entries):
        self._entries = []
        self._places = {}
        for view, lots in entries:
            if view in self._places or not are_lots(lots):
                raise BadPlan(len(self._entries))
            self._places[view] = len(self._entries)
            self._entries.append((view, tuple(lots)))

    def __eq__(self, other):
        return isinstance(other, Plan) and self._entries == other._entries

    def entries(self):
        """The pairs of a view and the tuple of its lots, in order."""
        return list(self._entries)

    def lots_at(self, view, moves):
        """The lots that the plan follows at a view with so many moves."""
        if view in self._places:
            _, lots = self._entries[self._places[view]]
            if len(lots) == moves:
                return lots
        return one_lot(0, moves)


def are_lots(ratios):
    """Whether fractions are lots: some that are not negative and add up to 1."""
    total = Ratio(0)
    for ratio in ratios:
        if ratio.num < 0:
            return False
        total = total + ratio
    return total == Ratio(1)


def one_lot(move, moves):
    """The lots that make one move of so many."""
    return tuple([Ratio(1) if at == move else Ratio(0) for at in range(moves)])


def sure(views, moves):
    """The plan that makes one move at each of some views, pairs of a view and the number of its moves."""
    return Plan([(view, one_lot(move, many)) for (view, many), move in zip(views, moves)])


def plan_on(routes, weights):
    """The plan that takes each route of a seat with its weight; at a view behind a route without weight, move 0."""
    entries = []
    for (view, moves), start, before in zip(routes.views, routes.starts, routes.befores):
        lots = one_lot(0, moves)
        if weights[before] > 0:
            lots = [Ratio(weight, weights[before]) for weight in weights[start:start + moves]]
        entries.append((view, lots))
    return Plan(entries)


def average(tree, chooser, comer):
    """What the chooser is paid on average if both seats follow these plans."""
    outline = Outline(tree)
    own, own_factor = made_whole(outline.chooser.chances_of(chooser))
    other, other_factor = made_whole(outline.comer.chances_of(comer))
    paid = product_sum(outline.worths_to_chooser(other), own)
    return Ratio(paid, outline.scale * own_factor * other_factor)


def comings(tree):
    """All plans without lots of the comer, the move at the last view changing first; raises TooLarge."""
    views = views_of(tree, "comer")
    return [sure(views, choices) for choices in coming_choices(views)]


def coming_choices(views):
    """The moves that each coming makes at the views of the comer; raises TooLarge if there are too many."""
    found = [()]
    for _, moves in views:
        if len(found) * moves > MOST_COMINGS:
            raise TooLarge("comings")
        found = [(*choices, move) for choices in found for move in range(moves)]
    return found


class Answer:
    """A best answer of the chooser to pairs of a plan of the comer and a weight."""

    def __init__(self, tree, pairs):
        outline = Outline(tree)
        weights, factor = made_whole(outline.comer.weighted_chances(pairs))
        paid, choices = outline.chooser.best(outline.worths_to_chooser(weights))
        self.paid = Ratio(paid, outline.scale * factor)
        self._best = sure(outline.chooser.views, choices)

    def plan(self):
        """A best answer that names all views of the chooser, in order."""
        return self._best


def hindsight(tree, coming):
    """What a best answer to this plan of the comer alone is paid on average."""
    return Answer(tree, [(coming, Ratio(1))]).paid
