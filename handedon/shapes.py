"""The shapes of deeds and expressions: which parts they have, and how these lie within one another."""

# For each deed's first word the kinds of its other parts, in order; a "rest" is a block that may be without deeds.
SHAPES = {
    "let": ("name", "expression"),
    "note": ("expression",),
    "give": ("name", "expression"),
    "on": ("name", "expression"),
    "ask": ("name", "name", "expression", "expression"),
    "cast": ("name", "name", "expression", "word", "expression"),
    "close": ("expression",),
    "end": ("expression",),
    "fault": ("word", "expression"),
    "leave": (),
    "if": ("expression", "block", "rest"),
    "while": ("expression", "block"),
    "try": ("block", "catches", "rest"),
}


def parts_of(deed, kind):
    """The deed's own parts of one kind, in order."""
    return [part for shape, part in zip(SHAPES[deed[0]], deed[1:]) if shape == kind]


def blocks_of(deed):
    """The deed's blocks, each at its number."""
    if deed[0] == "if":
        return [deed[2], deed[3]]
    if deed[0] == "while":
        return [deed[2]]
    if deed[0] == "try":
        return [deed[1]] + [block for caught, name, block in deed[2]] + [deed[3]]
    return []


def deeds_of(block):
    """All deeds of the block, inner ones too, in reading order."""
    found = []
    for deed in block:
        found.append(deed)
        for inner in blocks_of(deed):
            found.extend(deeds_of(inner))
    return found


def names_given(deed):
    """The names into which the deed, or a catch of it, puts a worth."""
    if deed[0] == "try":
        return [name for caught, name, block in deed[2]]
    return parts_of(deed, "name")


def branches_of(expression):
    """The expressions that stand straight in the expression."""
    if expression[0] == "op":
        return [expression[2], expression[3]]
    if expression[0] == "make":
        return list(expression[2])
    return []


def trees_of(expression):
    """The expression and all expressions in it."""
    found = [expression]
    for branch in branches_of(expression):
        found.extend(trees_of(branch))
    return found


def trees_in(rule):
    """All expressions of the rule's deeds, inner ones too."""
    found = []
    for deed in deeds_of(rule[2]):
        for expression in parts_of(deed, "expression"):
            found.extend(trees_of(expression))
    return found
