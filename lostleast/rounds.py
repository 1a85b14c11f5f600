"""Games that are played several times."""

from lostleast.game import Game

MOVES = ("choose", "come")


def repeated(game, count):
    """The game that is played so many times, one time behind the other."""
    moves = moves_in(game.block)
    anew = [("set", name, ("number", 0)) for name, _ in game.variables]
    block = []
    for turn in range(count):
        if turn > 0:
            block.extend(anew)
        block.extend(later_block(game.block, turn * moves))
    return Game(game.variables, block)


def moves_in(block):
    """How many moves stand in a block."""
    return sum([moves_of(statement) for statement in block])


def moves_of(statement):
    if statement[0] == "if":
        return moves_in(statement[2]) + moves_in(statement[3])
    return 1 if statement[0] in MOVES else 0


def later_block(block, moves):
    """The same block behind so many moves."""
    return tuple([later(statement, moves) for statement in block])


def later(statement, moves):
    """The same statement behind so many moves."""
    if statement[0] == "if":
        _, value, then, otherwise = statement
        return ("if", value, later_block(then, moves), later_block(otherwise, moves))
    if statement[0] in MOVES:
        kind, name, results, move = statement
        return (kind, name, results, move + moves)
    return statement
