"""The trees of games."""

from lostleast.errors import TooLarge
from lostleast.play import play_of, seat_of

MOST_NODES = 400


class End:
    """The end of a game: what the chooser is paid."""

    def __init__(self, paid):
        self.paid = paid


class Lot:
    """A draw: a part for each result."""

    def __init__(self, parts):
        self.parts = tuple(parts)


class Move:
    """A move of a seat: its view, and a part for each move that it can make."""

    def __init__(self, seat, view, parts):
        self.seat = seat
        self.view = view
        self.parts = tuple(parts)


def tree_of(game):
    """The tree of a game; raises TooLarge if it has too many nodes."""
    drafts = []
    plays = [play_of(game)]
    while plays:
        if len(drafts) == MOST_NODES:
            raise TooLarge("nodes")
        play = plays.pop()
        statement = play.go_on()
        results = 0 if statement is None else statement[2]
        drafts.append((node_at(play, statement), results))
        plays.extend([play.behind(statement, result) for result in reversed(range(results))])
    return joined(drafts)


def node_at(play, statement):
    """The node, still without parts, for a play that stands at a draw or move, or at the end."""
    if statement is None:
        return End(play.paid)
    if statement[0] == "draw":
        return Lot(())
    _, _, results, move = statement
    seat = seat_of(statement)
    return Move(seat, play.ask(seat, move, results), ())


def joined(drafts):
    """The first node of some pairs of a node and the number of its parts, which stand behind it."""
    nodes = []
    for node, parts in drafts[::-1]:
        if parts > 0:
            node.parts = tuple([nodes.pop() for _ in range(parts)])
        nodes.append(node)
    return nodes[0]


def nodes_of(tree):
    """All nodes of a tree, each ahead of its parts, earlier parts first."""
    nodes = []
    ahead = [tree]
    while ahead:
        node = ahead.pop()
        nodes.append(node)
        if not isinstance(node, End):
            ahead.extend(node.parts[::-1])
    return nodes


def ends_of(tree):
    """What the chooser is paid at all ends, earlier parts first."""
    return [node.paid for node in nodes_of(tree) if isinstance(node, End)]


def views_of(tree, seat):
    """Pairs of a view of a seat and the number of its moves, in the order in which they are met first."""
    # A dict keeps the place at which a view was met first.
    nodes = [node for node in nodes_of(tree) if isinstance(node, Move) and node.seat == seat]
    moves = {node.view: len(node.parts) for node in nodes}
    return list(moves.items())
