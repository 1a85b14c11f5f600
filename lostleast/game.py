"""Games: their data, and the texts that write them."""

from lostleast.reader import Reader
from lostleast.words import words_of


class Game:
    """A game: its variables, pairs of a name and a size, and its block of statements."""

    def __init__(self, variables, block):
        self.variables = in_tuples(variables)
        self.block = in_tuples(block)

    def __eq__(self, other):
        return isinstance(other, Game) and self.variables == other.variables and self.block == other.block


def in_tuples(data):
    """Data of a game with a tuple in the place of each list, at any depth."""
    if isinstance(data, (list, tuple)):
        return tuple([in_tuples(part) for part in data])
    return data


def read_game(text):
    """The game that a text writes; raises BadText if it writes none."""
    reader = Reader(words_of(text))
    variables = reader.read_variables()
    block = reader.read_block(1)
    reader.finish()
    return Game(variables, block)


def game_text(game):
    """The text that writes a game."""
    words = []
    for name, size in game.variables:
        words.extend(["var", name, str(size)])
    words.extend(block_words(game.block))
    return " ".join(words)


def block_words(block):
    words = []
    for statement in block:
        words.extend(statement_words(statement))
    return words


def statement_words(statement):
    kind = statement[0]
    if kind == "if":
        return if_words(statement)
    if kind in ("pay", "take"):
        return [kind, *expression_words(statement[1])]
    if kind in ("set", "show"):
        return [kind, statement[1], *expression_words(statement[2])]
    return [kind, statement[1], str(statement[2])]


def if_words(statement):
    _, value, then, otherwise = statement
    words = ["if", *expression_words(value), *block_words(then)]
    if otherwise:
        words.append("else")
        words.extend(block_words(otherwise))
    words.append("end")
    return words


def expression_words(expression):
    if expression[0] == "number":
        return [str(expression[1])]
    if expression[0] == "variable":
        return [expression[1]]
    operator, first, second = expression
    return [operator, *expression_words(first), *expression_words(second)]
