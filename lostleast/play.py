"""Playing a game, up to its next draw or move and on behind it."""

from lostleast.values import value_of
from lostleast.words import CHANCES, SEATS


class Play:
    """A game under way: what is stored, paid and seen so far, and what is still to be done."""

    def __init__(self, sizes, stored, paid, seen, todo):
        self.sizes = sizes
        self.stored = stored
        self.paid = paid
        self.seen = seen
        # The statements stand in reverse, so that the one ahead is cheap to take away.
        self.todo = todo

    def go_on(self):
        """Goes on to the next draw or move, and returns its statement; at the end, None."""
        while self.todo:
            statement = self.todo.pop()
            if statement[0] in CHANCES:
                return statement
            self.perform(statement)
        return None

    def perform(self, statement):
        """Does what a statement says that is no draw and no move."""
        kind = statement[0]
        if kind == "if":
            _, test, then, otherwise = statement
            part = then if self.value_now(test) != 0 else otherwise
            self.todo.extend(part[::-1])
        elif kind == "set":
            self.store(statement[1], self.value_now(statement[2]))
        elif kind == "show":
            self.seen[statement[1]].append(("shown", self.value_now(statement[2])))
        elif kind == "pay":
            self.paid += self.value_now(statement[1])
        else:
            self.paid -= self.value_now(statement[1])

    def value_now(self, expression):
        return value_of(expression, self.stored)

    def store(self, name, value):
        self.stored[name] = value % self.sizes[name]

    def ask(self, seat, move, results):
        """Asks a seat for a move, and returns its view there."""
        self.seen[seat].append(("asked", move, results))
        return tuple(self.seen[seat])

    def behind(self, statement, result):
        """The play behind a draw or move that has this result; this play stays as it is."""
        seen = {seat: list(self.seen[seat]) for seat in SEATS}
        play = Play(self.sizes, dict(self.stored), self.paid, seen, list(self.todo))
        if statement[0] != "draw":
            seen[seat_of(statement)].append(("did", result))
        play.store(statement[1], result)
        return play


def play_of(game):
    """The play of a game at its beginning."""
    stored = {name: 0 for name, _ in game.variables}
    seen = {seat: [] for seat in SEATS}
    return Play(dict(game.variables), stored, 0, seen, list(game.block[::-1]))


def seat_of(statement):
    """The seat that makes a move."""
    return "chooser" if statement[0] == "choose" else "comer"
