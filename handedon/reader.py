"""How a book is read from its text.

Rows are lines as they were read: (how many blanks are ahead, the word, the parts). Each function that reads is handed
the rows and the number of the row at which it begins, and tells what it read and the number of the row behind that.
"""

from handedon.books import MOST_BLOCKS, is_book
from handedon.errors import NoText
from handedon.lines import line_read
from handedon.shapes import SHAPES

# It may come nowhere: so it stands for a line that can't be read, and for the text's end.
NO_LINE = (0, "", ())


def rows_of(lines):
    """The rows of the lines up to the first that can't be read, and NO_LINE behind them."""
    rows = []
    for line in lines:
        try:
            rows.append(line_read(line))
        except NoText:
            break
    return rows + [NO_LINE]


def has_word(row, blanks, word):
    """Whether the row has so many blanks and this word."""
    return row[0] == blanks and row[1] == word


def read_block(rows, at, blanks):
    """The block whose deeds have so many blanks."""
    deeds = []
    while rows[at][0] == blanks and rows[at][1] in SHAPES:
        deed, at = read_deed(rows, at, blanks)
        deeds.append(deed)
    if len(deeds) == 0:
        raise NoText(at)
    return tuple(deeds), at


def read_rest(rows, at, blanks, word):
    """The elses or lasts under a line of this word, without deeds where there is no such line."""
    if not has_word(rows[at], blanks, word):
        return (), at
    return read_block(rows, at + 1, blanks + 1)


def read_catches(rows, at, blanks):
    """The catches whose lines have so many blanks."""
    catches = []
    while has_word(rows[at], blanks, "catch"):
        caught, name = rows[at][2]
        block, at = read_block(rows, at + 1, blanks + 1)
        catches.append((caught, name, block))
    return tuple(catches), at


def read_try(rows, at, blanks):
    """The try that begins here."""
    block, at = read_block(rows, at + 1, blanks + 1)
    catches, at = read_catches(rows, at, blanks)
    lasts, at = read_rest(rows, at, blanks, "last")
    if len(catches) + len(lasts) == 0:
        raise NoText(at)
    return ("try", block, catches, lasts), at


def read_deed(rows, at, blanks):
    """The deed that begins here, with those in it."""
    word = rows[at][1]
    parts = rows[at][2]
    if word not in ("if", "while", "try"):
        return (word,) + parts, at + 1
    # No line may come under it: so already the line itself can't be followed by what it needs.
    if blanks == MOST_BLOCKS:
        raise NoText(at)
    if word == "try":
        return read_try(rows, at, blanks)
    block, at = read_block(rows, at + 1, blanks + 1)
    if word == "while":
        return ("while", parts[0], block), at
    elses, at = read_rest(rows, at, blanks, "else")
    return ("if", parts[0], block, elses), at


def read_rule(rows, at):
    """The rule that begins here."""
    if not has_word(rows[at], 0, "rule"):
        raise NoText(at)
    name, params = rows[at][2]
    block, at = read_block(rows, at + 1, 1)
    return (name, params, block), at


def read_book(text):
    """The book that is so written, or NoText."""
    if not isinstance(text, str):
        raise NoText(0)
    lines = text.split("\n")
    rows = rows_of(lines)
    rules = []
    at = 0
    while at < len(lines):
        rule, at = read_rule(rows, at)
        rules.append(rule)
    book = tuple(rules)
    if not is_book(book):
        raise NoText(len(lines))
    return book
