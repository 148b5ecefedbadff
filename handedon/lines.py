"""The lines of a book's text: of which pieces each is made, and how one is read."""

from handedon.books import MOST_DEPTH, is_name, is_part
from handedon.errors import NoText
from handedon.worths import FIGURES, LETTERS, is_letters, read_worth

KINDS = ("name", "word", "caught", "params", "expression")
# For each word the pieces of its line, in order: those of KINDS stand for a part of this kind, others for themselves.
LINES = {
    "rule": ("rule ", "name", "(", "params", ")"),
    "let": ("name", " = ", "expression"),
    "note": ("note ", "expression"),
    "give": ("name", " = give ", "expression"),
    "on": ("name", " = on ", "expression"),
    "ask": ("name", ", ", "name", " = ask ", "expression", ", ", "expression"),
    "cast": ("name", ", ", "name", " = cast ", "expression", ", ", "word", " ", "expression"),
    "close": ("close ", "expression"),
    "end": ("end ", "expression"),
    "fault": ("fault ", "word", " ", "expression"),
    "leave": ("leave",),
    "if": ("if ", "expression"),
    "else": ("else",),
    "while": ("while ", "expression"),
    "try": ("try",),
    "catch": ("catch ", "caught", " ", "name"),
    "last": ("last",),
}


def cut(text, signs):
    """The text's first signs as long as they are some of these, and what stands behind them."""
    many = 0
    while many < len(text) and text[many] in signs:
        many += 1
    return text[:many], text[many:]


def behind_piece(text, piece):
    """What stands behind the piece, with which the text must begin."""
    if not text.startswith(piece):
        raise NoText(0)
    return text[len(piece):]


def take_op(text, depth):
    """The op with which the text begins, its trees at most so deep, and what stands behind it."""
    first, rest = take_tree(behind_piece(text, "("), depth)
    rest = behind_piece(rest, " ")
    second, behind = take_tree(behind_piece(rest[1:], " "), depth)
    return ("op", rest[:1], first, second), behind_piece(behind, ")")


def take_args(text, depth):
    """The args in brackets with which the text begins, each at most so deep, and what stands behind them."""
    rest = behind_piece(text, "(")
    if rest.startswith(")"):
        return (), rest[1:]
    arg, rest = take_tree(rest, depth)
    args = [arg]
    while rest.startswith(", "):
        arg, rest = take_tree(rest[2:], depth)
        args.append(arg)
    return tuple(args), behind_piece(rest, ")")


def take_make(text, depth):
    """The make of whose text this is what stands behind its first word, and what stands behind it."""
    name, rest = cut(behind_piece(text, " "), LETTERS)
    args, rest = take_args(rest, depth)
    return ("make", name, args), rest


def take_tree(text, depth):
    """The tree with which the text begins, and what stands behind it.

    Only how deep it is is bounded here, as brackets without end would lead too far down; the rest is looked at when
    all of the expression is there.
    """
    if depth == 0:
        raise NoText(0)
    if text.startswith("("):
        return take_op(text, depth - 1)
    leaf, rest = cut(text, LETTERS + FIGURES + "-")
    if leaf == "make":
        return take_make(rest, depth - 1)
    if is_name(leaf):
        return ("var", leaf), rest
    return read_worth(leaf), rest


def take_params(text):
    """The params with which the text begins, and what stands behind them."""
    run, rest = cut(text, LETTERS + ", ")
    if run == "":
        return (), rest
    params = tuple(run.split(", "))
    if not all([is_name(name) for name in params]):
        raise NoText(0)
    return params, rest


def take_part(text, kind):
    """The part of this kind with which the text begins, and what stands behind it."""
    if kind == "params":
        return take_params(text)
    if kind == "expression":
        part, rest = take_tree(text, MOST_DEPTH)
    else:
        part, rest = cut(text, LETTERS)
    # What may be caught is a word or `any`, so whatever letters.
    fits = is_letters(part) if kind == "caught" else is_part(kind, part)
    if not fits:
        raise NoText(0)
    return part, rest


def parts_read(text, pieces):
    """The parts of a text that is made of just these pieces, or NoText."""
    parts = []
    rest = text
    for piece in pieces:
        if piece in KINDS:
            part, rest = take_part(rest, piece)
            parts.append(part)
        else:
            rest = behind_piece(rest, piece)
    if rest != "":
        raise NoText(0)
    return tuple(parts)


def line_read(line):
    """The line as (how many blanks are ahead, its word in LINES, its parts), or NoText."""
    text = line.lstrip(" ")
    for word in LINES:
        try:
            return (len(line) - len(text), word, parts_read(text, LINES[word]))
        except NoText:
            continue
    raise NoText(0)
