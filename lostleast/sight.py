"""Sights: values that are shown to the chooser besides, and which of them are needed."""

from lostleast.game import Game
from lostleast.least import least_regret
from lostleast.tree import Move, nodes_of, tree_of


def with_sights(game, sights):
    """The game in which each sight, a pair of an index and an expression, is shown to the chooser."""
    many = len(game.block)
    shows = [[] for _ in range(many + 1)]
    for index, expression in sights:
        place = index if index in range(many) else many
        shows[place].append(("show", "chooser", expression))
    block = []
    for statement, ahead in zip(game.block, shows):
        block.extend([*ahead, statement])
    return Game(game.variables, [*block, *shows[many]])


def regret_with(game, sights):
    """The least regret of a game with sights."""
    return least_regret(tree_of(with_sights(game, sights))).value


class Regrets:
    """The least regrets of a game with some or other of its sights.

    Sights change nothing of a tree but which moves of the chooser have the same view. So the search is made once
    for all sights that tell the same moves apart.
    """

    def __init__(self, game):
        self.game = game
        self.known = {}

    def least_of(self, sights):
        """The least regret with some sights; raises TooLarge."""
        tree = tree_of(with_sights(self.game, sights))
        marks = view_marks(tree)
        if marks not in self.known:
            self.known[marks] = least_regret(tree).value
        return self.known[marks]


def view_marks(tree):
    """A number for each move of the chooser, the same one for those with the same view."""
    marks = {}
    moves = [node for node in nodes_of(tree) if isinstance(node, Move) and node.seat == "chooser"]
    return tuple([marks.setdefault(move.view, len(marks)) for move in moves])


def least_sights(game, sights, aim):
    """The least sets of sights, as lists of indexes, with which the least regret is at most an aim."""
    regrets = Regrets(game)
    found = []
    sets = [[]]
    while sets:
        wanting = []
        for chosen in sets:
            if has_part(chosen, found):
                continue
            if aim.less(regrets.least_of([sights[at] for at in chosen])):
                wanting.append(chosen)
            else:
                found.append(chosen)
        # No part of a least set is enough. So without its last member it is one of the sets that are wanting.
        sets = [[*first, at] for first in wanting for at in range(max([-1, *first]) + 1, len(sights))]
    return found


def has_part(chosen, found):
    """Whether a list contains all that one of some lists contains."""
    return any([all([at in chosen for at in part]) for part in found])
