"""How books and expressions are written."""

from handedon.lines import KINDS, LINES
from handedon.worths import worth_text


def expression_text(expression):
    """How the expression is written."""
    if expression[0] == "op":
        return f"({expression_text(expression[2])} {expression[1]} {expression_text(expression[3])})"
    if expression[0] == "make":
        args = ", ".join([expression_text(arg) for arg in expression[2]])
        return f"make {expression[1]}({args})"
    if expression[0] == "var":
        return expression[1]
    return worth_text(expression)


def part_text(kind, part):
    """How a part of this kind is written."""
    if kind == "expression":
        return expression_text(part)
    if kind == "params":
        return ", ".join(part)
    return part


def line_text(blanks, word, parts):
    """The line of this word in LINES, with these parts, behind so many blanks."""
    texts = []
    used = 0
    for piece in LINES[word]:
        if piece in KINDS:
            texts.append(part_text(piece, parts[used]))
            used += 1
        else:
            texts.append(piece)
    return " " * blanks + "".join(texts)


def headed_lines(blanks, word, parts, block):
    """The line of this word, with these parts, and the lines of the block under it."""
    lines = [line_text(blanks, word, parts)]
    for deed in block:
        lines.extend(deed_lines(blanks + 1, deed))
    return lines


def rest_lines(blanks, word, block):
    """The lines of elses or lasts, none where these are without deeds."""
    if len(block) == 0:
        return []
    return headed_lines(blanks, word, (), block)


def try_lines(blanks, deed):
    """The lines of a try."""
    lines = headed_lines(blanks, "try", (), deed[1])
    for caught, name, block in deed[2]:
        lines.extend(headed_lines(blanks, "catch", (caught, name), block))
    return lines + rest_lines(blanks, "last", deed[3])


def deed_lines(blanks, deed):
    """The lines of a deed, those of the deeds in it too."""
    if deed[0] == "if":
        return headed_lines(blanks, "if", (deed[1],), deed[2]) + rest_lines(blanks, "else", deed[3])
    if deed[0] == "while":
        return headed_lines(blanks, "while", (deed[1],), deed[2])
    if deed[0] == "try":
        return try_lines(blanks, deed)
    return [line_text(blanks, deed[0], deed[1:])]


def book_text(book):
    """How the book is written."""
    lines = []
    for name, params, block in book:
        lines.extend(headed_lines(0, "rule", (name, params), block))
    return "\n".join(lines)
