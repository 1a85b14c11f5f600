"""Reading the words of a game."""

from lostleast.errors import BadText
from lostleast.words import CHANCES, LARGEST_NUMBER, OPERATORS, SEATS, STATEMENTS, is_name, is_number

MOST_VARIABLES = 5
MOST_CHANCES = 10
MOST_RESULTS = 8
DEEPEST_IF = 4
DEEPEST_EXPRESSION = 6


class Reader:
    """Reads words in their order and raises BadText at the first one that fits nowhere.

    Behind every step the words so far are the beginning of the text of some game: what is
    still missing can always be written with words like `0`, `1`, `pay` and `end`.
    """

    def __init__(self, words):
        self.words = list(words)
        self.at = 0
        self.names = []
        self.chances = 0
        self.moves = 0

    def ahead(self):
        """The word ahead; behind the last one the empty word, as that fits nowhere, too."""
        return self.words[self.at] if self.at < len(self.words) else ""

    def step(self, fits):
        """Goes on behind the word ahead if it fits."""
        if not fits:
            raise BadText(self.at)
        self.at += 1

    def finish(self):
        """Raises BadText if a word is left."""
        if self.at < len(self.words):
            raise BadText(self.at)

    def read_variables(self):
        """The pairs of the declared names and their sizes."""
        variables = []
        while self.ahead() == "var":
            self.step(len(variables) < MOST_VARIABLES)
            name = self.ahead()
            self.step(is_name(name) and name not in self.names)
            self.names.append(name)
            variables.append((name, self.read_number(1, LARGEST_NUMBER)))
        return tuple(variables)

    def read_block(self, depth):
        """The statements up to a word that begins none; an if among them has this depth."""
        block = []
        while self.ahead() in STATEMENTS:
            block.append(self.read_statement(depth))
        return tuple(block)

    def read_statement(self, depth):
        kind = self.ahead()
        if kind in CHANCES:
            return self.read_chance(kind)
        if kind == "if":
            return self.read_if(depth)
        if kind == "set":
            self.step(len(self.names) > 0)
            name = self.read_name()
            return (kind, name, self.read_expression(1))
        self.step(True)
        if kind == "show":
            seat = self.read_seat()
            return (kind, seat, self.read_expression(1))
        return (kind, self.read_expression(1))

    def read_chance(self, kind):
        """A draw, or a choose or come with the number of its move."""
        self.step(len(self.names) > 0 and self.chances < MOST_CHANCES)
        self.chances += 1
        name = self.read_name()
        results = self.read_number(1, MOST_RESULTS)
        if kind == "draw":
            return (kind, name, results)
        move = self.moves
        self.moves += 1
        return (kind, name, results, move)

    def read_if(self, depth):
        self.step(depth <= DEEPEST_IF)
        value = self.read_expression(1)
        then = self.read_block(depth + 1)
        if self.ahead() != "else":
            self.step(self.ahead() == "end")
            return ("if", value, then, ())
        self.step(True)
        otherwise = self.read_block(depth + 1)
        self.step(self.ahead() == "end" and len(otherwise) > 0)
        return ("if", value, then, otherwise)

    def read_expression(self, depth):
        word = self.ahead()
        if word in OPERATORS:
            self.step(depth < DEEPEST_EXPRESSION)
            first = self.read_expression(depth + 1)
            second = self.read_expression(depth + 1)
            return (word, first, second)
        if is_number(word):
            return ("number", self.read_number(0, LARGEST_NUMBER))
        return ("variable", self.read_name())

    def read_name(self):
        """The name of a declared variable."""
        name = self.ahead()
        self.step(name in self.names)
        return name

    def read_seat(self):
        seat = self.ahead()
        self.step(seat in SEATS)
        return seat

    def read_number(self, low, high):
        """A number from low to high."""
        word = self.ahead()
        self.step(is_number(word) and low <= int(word) <= high)
        return int(word)
