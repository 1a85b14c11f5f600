"""Trees of many games, beside those of a second way to play them: from the beginning, once for each node."""

import operator
import random
import unittest

from lostleast.errors import TooLarge
from lostleast.game import read_game
from lostleast.tree import ends_of, tree_of, views_of
from tests.games import SMALL, statements
from tests.helpers import shape

SIGNS = {
    "+": lambda a, b: (a + b) % 65536, "-": lambda a, b: a - b if a > b else 0, "*": lambda a, b: a * b % 65536,
    "/": lambda a, b: a // b if b else 0, "mod": lambda a, b: a % b if b else 0,
    "<": lambda a, b: int(a < b), "=": lambda a, b: int(operator.eq(a, b)),
}


def value(expression, stored):
    if expression[0] in SIGNS:
        return SIGNS[expression[0]](*[value(part, stored) for part in expression[1:]])
    return stored[expression[1]] if expression[0] == "variable" else expression[1]


class Stopped(Exception):
    """A draw or move for which no result was given."""


def run(game, results):
    """Plays a game with these results; tells how it ends, or the draw or move at which results are missing."""
    results = list(results)
    sizes = dict(game.variables)
    state = {"stored": dict.fromkeys(sizes, 0), "paid": 0, "chooser": (), "comer": ()}
    seats = {"choose": "chooser", "come": "comer"}

    def follow(block):
        for kind, *rest in block:
            if kind == "if":
                follow(rest[1] if value(rest[0], state["stored"]) else rest[2])
            elif kind in ("pay", "take"):
                state["paid"] += value(rest[0], state["stored"]) * (1 if kind == "pay" else -1)
            elif kind == "show":
                state[rest[0]] += (("shown", value(rest[1], state["stored"])),)
            elif kind == "set":
                state["stored"][rest[0]] = value(rest[1], state["stored"]) % sizes[rest[0]]
            else:
                if kind in seats:
                    state[seats[kind]] += (("asked", rest[2], rest[1]),)
                if not results:
                    raise Stopped(kind, rest[1])
                result = results.pop(0)
                if kind in seats:
                    state[seats[kind]] += (("did", result),)
                state["stored"][rest[0]] = result % sizes[rest[0]]

    try:
        follow(game.block)
    except Stopped as stop:
        kind, many = stop.args
        return many, ("lot",) if kind == "draw" else (seats[kind], state[seats[kind]])
    return 0, state["paid"]


def slow_shape(game, results=()):
    many, told = run(game, results)
    if many == 0:
        return told
    return (*told, *[slow_shape(game, (*results, result)) for result in range(many)])


def slow_views(node, seat, found):
    if isinstance(node, tuple):
        if node[0] == seat and node[1] not in found:
            found[node[1]] = len(node) - 2
        for part in node[1 if node[0] == "lot" else 2:]:
            slow_views(part, seat, found)
    return list(found.items())


def slow_ends(node):
    if not isinstance(node, tuple):
        return [node]
    return [end for part in node[1 if node[0] == "lot" else 2:] for end in slow_ends(part)]


class SlowTreeTest(unittest.TestCase):

    def assertTree(self, text):
        game = read_game(text)
        try:
            root = tree_of(game)
        except TooLarge:
            return 0
        expected = slow_shape(game)
        self.assertEqual(shape(root), expected)
        self.assertEqual(ends_of(root), slow_ends(expected))
        for seat in ("chooser", "comer"):
            self.assertEqual(views_of(root, seat), slow_views(expected, seat, {}))
        return 1

    def test_small_games(self):
        for text in SMALL:
            with self.subTest(text):
                self.assertTree(text)

    def test_random_games(self):
        rng = random.Random(81)
        made = 0
        while made < 150:
            text = f"var x {rng.randint(1, 5)} var y 65535 var z {rng.randint(1, 9)} {statements(rng, 7, 2)}"
            if sum(text.split().count(word) for word in ("draw", "choose", "come")) <= 8:
                with self.subTest(text):
                    made += self.assertTree(text)


if __name__ == "__main__":
    unittest.main()
