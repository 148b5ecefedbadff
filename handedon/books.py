"""Names, rules and books: what they are, and what a rule's variables are."""

from handedon.errors import NoRule
from handedon.shapes import SHAPES, blocks_of, deeds_of, names_given, trees_in, trees_of
from handedon.worths import is_letters, is_word, is_worth

SHUT_NAMES = (
    "any", "ask", "cast", "catch", "close", "else", "end", "fault", "give", "if", "last", "leave", "make", "none",
    "note", "on", "rule", "try", "while",
)
SIGNS = ("+", "-", "*", "<", "=")
MOST_DEPTH = 4
MOST_TREES = 9
MOST_ARGS = 3
MOST_PARAMS = 3
MOST_CATCHES = 3
MOST_DEEDS = 30
MOST_BLOCKS = 5
MOST_VARIABLES = 12
MOST_RULES = 8


def is_name(thing):
    """Whether the thing is a name."""
    return is_letters(thing) and thing not in SHUT_NAMES


def is_args(thing, depth):
    """Whether the thing is a tuple of args, each at most so deep."""
    if not isinstance(thing, tuple) or len(thing) > MOST_ARGS:
        return False
    return all([is_tree(arg, depth) for arg in thing])


def is_tree(thing, depth):
    """Whether the thing is an expression, but for how many tuples it has, at most so deep."""
    if depth == 0 or not isinstance(thing, tuple) or len(thing) == 0:
        return False
    if thing[0] == "op":
        if len(thing) != 4 or thing[1] not in SIGNS:
            return False
        return is_tree(thing[2], depth - 1) and is_tree(thing[3], depth - 1)
    if thing[0] == "make":
        return len(thing) == 3 and is_name(thing[1]) and is_args(thing[2], depth - 1)
    if thing[0] == "var":
        return len(thing) == 2 and is_name(thing[1])
    # Below 0 there is no giver: so only none and numbers are left.
    return is_worth(thing, 0)


def is_expression(thing):
    """Whether the thing is an expression."""
    return is_tree(thing, MOST_DEPTH) and len(trees_of(thing)) <= MOST_TREES


def is_some(thing):
    """Whether the thing is a tuple that isn't empty."""
    return isinstance(thing, tuple) and len(thing) > 0


def is_catch(thing):
    """Whether the thing is a catch, the deeds of its block aside."""
    if not isinstance(thing, tuple) or len(thing) != 3:
        return False
    # What may be caught is a word or `any`, so whatever letters.
    return is_letters(thing[0]) and is_name(thing[1]) and is_some(thing[2])


def is_catches(thing):
    """Whether the thing is a tuple of catches, the deeds of their blocks aside."""
    if not isinstance(thing, tuple) or len(thing) > MOST_CATCHES:
        return False
    return all([is_catch(catch) for catch in thing])


def is_part(kind, part):
    """Whether the part is of this kind, the deeds of blocks aside."""
    if kind == "name":
        return is_name(part)
    if kind == "word":
        return is_word(part)
    if kind == "expression":
        return is_expression(part)
    if kind == "catches":
        return is_catches(part)
    if kind == "block":
        return is_some(part)
    return isinstance(part, tuple)


def is_deed(thing):
    """Whether the thing is a deed, the deeds in it aside."""
    if not is_some(thing) or not isinstance(thing[0], str):
        return False
    shape = SHAPES.get(thing[0])
    if shape is None or len(thing) != len(shape) + 1:
        return False
    if not all([is_part(kind, part) for kind, part in zip(shape, thing[1:])]):
        return False
    return thing[0] != "try" or len(thing[2]) + len(thing[3]) > 0


def is_deeds(block, depth, looped, counted):
    """Whether all in the block, which is so deep and in a while or not, are deeds, inner ones too.

    The deeds are counted on the way, as a thing with the same blocks in it over and over would take long.
    """
    for deed in block:
        counted.append(deed)
        if len(counted) > MOST_DEEDS or not is_deed(deed):
            return False
        if deed[0] == "leave" and not looped:
            return False
        for inner in blocks_of(deed):
            if depth == MOST_BLOCKS or not is_deeds(inner, depth + 1, looped or deed[0] == "while", counted):
                return False
    return True


def is_params(thing):
    """Whether the thing is a tuple of params."""
    if not isinstance(thing, tuple) or len(thing) > MOST_PARAMS:
        return False
    return all([is_name(name) for name in thing]) and len(set(thing)) == len(thing)


def is_rule(thing):
    """Whether the thing is a rule, but for what its makes name."""
    if not isinstance(thing, tuple) or len(thing) != 3:
        return False
    if not is_name(thing[0]) or not is_params(thing[1]) or not is_some(thing[2]):
        return False
    return is_deeds(thing[2], 1, False, []) and len(variables(thing)) <= MOST_VARIABLES


def makes_fit(rule, counts):
    """Whether each make of the rule names one that is counted, and has as many args as that has params."""
    makes = [tree for tree in trees_in(rule) if tree[0] == "make"]
    return all([counts.get(name) == len(args) for word, name, args in makes])


def is_book(thing):
    """Whether the thing is a book."""
    if not isinstance(thing, tuple) or not 1 <= len(thing) <= MOST_RULES:
        return False
    if not all([is_rule(rule) for rule in thing]):
        return False
    counts = {name: len(params) for name, params, block in thing}
    return len(counts) == len(thing) and all([makes_fit(rule, counts) for rule in thing])


def rule_of(book, name):
    """The book's rule of this name, or NoRule."""
    for rule in book:
        if rule[0] == name:
            return rule
    raise NoRule("no rule of this name")


def variables(rule):
    """The rule's variables: its params, then the others sorted."""
    names = [tree[1] for tree in trees_in(rule) if tree[0] == "var"]
    for deed in deeds_of(rule[2]):
        names.extend(names_given(deed))
    return rule[1] + tuple(sorted(set(names) - set(rule[1])))
