"""Worths and words: what they are, what signs make of them, how they are written and read."""

from handedon.errors import NoText

NONE = ("none",)
MOST_FIGURES = 30
BEYOND_NUMBERS = 10 ** 30
MOST_LETTERS = 8
MOST_GIVER_FIGURES = 2
LETTERS = "abcdefghijklmnopqrstuvwxyz"
FIGURES = "0123456789"


def is_whole(thing):
    """Whether the thing is a whole number: to Python a truth is one, too, to this program it isn't."""
    return isinstance(thing, int) and not isinstance(thing, bool)


def is_below(thing, many):
    """Whether the thing is a whole number from 0 on, below many."""
    return is_whole(thing) and 0 <= thing < many


def has_only(text, signs):
    """Whether each sign of the text is one of these signs."""
    return all([sign in signs for sign in text])


def is_letters(thing):
    """Whether the thing is a text of one to eight letters, as words and names are."""
    return isinstance(thing, str) and 1 <= len(thing) <= MOST_LETTERS and has_only(thing, LETTERS)


def is_word(thing):
    """Whether the thing is a word."""
    return is_letters(thing) and thing != "any"


def has_thirty(number):
    """Whether the whole number has at most thirty figures."""
    return abs(number) < BEYOND_NUMBERS


def is_worth(thing, many):
    """Whether the thing is a worth whose giver's number, if it has one, is below many."""
    if not isinstance(thing, tuple):
        return False
    if len(thing) == 1:
        return thing[0] == "none"
    if len(thing) != 2 or not is_whole(thing[1]):
        return False
    if thing[0] == "number":
        return has_thirty(thing[1])
    return thing[0] == "giver" and 0 <= thing[1] < many


def truth_told(holds):
    """What is told where a comparison holds or doesn't."""
    return ("worth", ("number", 1 if holds else 0))


def reckoned(sign, first, second):
    """What one of the signs + - * makes of two whole numbers."""
    if sign == "+":
        return first + second
    if sign == "-":
        return first - second
    return first * second


def sign_told(sign, a, b):
    """What the sign makes of two worths: ("worth", worth) or ("fault", word)."""
    if sign == "=":
        return truth_told(a == b)
    if a[0] != "number" or b[0] != "number":
        return ("fault", "kind")
    if sign == "<":
        return truth_told(a[1] < b[1])
    number = reckoned(sign, a[1], b[1])
    if not has_thirty(number):
        return ("fault", "great")
    return ("worth", ("number", number))


def is_yes(worth):
    """Whether the worth is a yes."""
    return worth != NONE and worth != ("number", 0)


def worth_text(worth):
    """How the worth is written."""
    if worth[0] == "none":
        return "none"
    if worth[0] == "giver":
        return f"#{worth[1]}"
    return str(worth[1])


def is_figures(text, most):
    """Whether the text is a whole number from 0 on, as it is written, of at most so many figures."""
    if not 1 <= len(text) <= most or not has_only(text, FIGURES):
        return False
    return text == "0" or text[0] != "0"


def is_number_text(text):
    """Whether the text is a number as it is written."""
    if text.startswith("-"):
        return text != "-0" and is_figures(text[1:], MOST_FIGURES)
    return is_figures(text, MOST_FIGURES)


def read_worth(text):
    """The worth that is so written, or NoText."""
    if not isinstance(text, str):
        raise NoText(0)
    if text == "none":
        return NONE
    if text.startswith("#") and is_figures(text[1:], MOST_GIVER_FIGURES):
        return ("giver", int(text[1:]))
    if is_number_text(text):
        return ("number", int(text))
    raise NoText(0)
