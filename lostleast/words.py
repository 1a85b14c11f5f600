"""The words of texts: key words, names, numbers and fractions."""

from lostleast.ratio import Ratio

CHANCES = ("draw", "choose", "come")
SEATS = ("chooser", "comer")
STATEMENTS = ("set", "draw", "choose", "come", "show", "pay", "take", "if")
KEY_WORDS = (
    "var", "set", "draw", "choose", "come", "show", "chooser", "comer",
    "pay", "take", "if", "else", "end", "mod",
)
OPERATORS = ("+", "-", "*", "/", "mod", "<", "=")

LETTERS = "abcdefghijklmnopqrstuvwxyz"
DIGITS = "0123456789"
LONGEST_NAME = 8
LONGEST_NUMBER = 5
LARGEST_NUMBER = 65535
LONGEST_PART = 60


def words_of(text):
    """The parts of a text between single spaces; the empty text has none."""
    return text.split(" ") if text else []


def is_made_of(word, signs):
    """Whether all signs of a word are among some signs."""
    return all([sign in signs for sign in word])


def is_name(word):
    """Whether a word may name a variable."""
    return 1 <= len(word) <= LONGEST_NAME and is_made_of(word, LETTERS) and word not in KEY_WORDS


def is_number(word):
    """Whether a word writes a number that a game may contain."""
    if not 1 <= len(word) <= LONGEST_NUMBER or not is_made_of(word, DIGITS):
        return False
    return begins_rightly(word) and int(word) <= LARGEST_NUMBER


def begins_rightly(word):
    """Whether some digits have no leading zero."""
    return word == "0" or word[0] != "0"


def is_long_number(word):
    """Whether a word writes a number that may stand in the line of a plan."""
    return is_part(word) and begins_rightly(word)


def fraction_of(word):
    """The fraction that a word writes, or None if it writes none."""
    parts = word.split("/")
    if not all([is_part(part) for part in parts]):
        return None
    den = int(parts[1]) if len(parts) > 1 else 1
    if den == 0:
        return None
    ratio = Ratio(int(parts[0]), den)
    # What has leading zeros, a third part or the denominator 1 or is not in lowest terms is written differently.
    return ratio if str(ratio) == word else None


def is_part(word):
    """Whether a word may be a part of a fraction, but for leading zeros."""
    return 1 <= len(word) <= LONGEST_PART and is_made_of(word, DIGITS)
