"""Things that several tests hand in: odd ones, and books."""


def nested(kind, depth):
    """A thing so many deep: of tuples, lists or dicts."""
    thing = "none"
    for _ in range(depth):
        thing = {"tuple": (thing,), "list": [thing], "dict": {"none": thing}}[kind]
    return thing


# Of each sort of which whatever thing is made; none of them is a worth, a word, a name or a book.
ODD = [
    None, True, False, 0, 1, -1, 7, 10 ** 39, -(10 ** 39), "", " ", "\n", "~", "A", "abc def", "a" * 40000,
    (), [], {}, (None,), (True,), (0,), ((),), ([],), ({},), [()], {"a": ()}, {0: "none"}, ((("none",),),),
    ["none"], ["number", 1], {"none": None}, ("None",), ("none", None), ("number",), ("number", None),
    ("number", "1"), ("number", (1,)), ("number", 1, 1), ("giver",), ("giver", "0"), (["none"],), ({"none": 1},),
    nested("tuple", 40), nested("list", 40), nested("dict", 40), tuple(range(9999)), list(range(9999)),
]

NONE = ("none",)
ONE = ("number", 1)


def var(name):
    return ("var", name)


def op(sign, a, b):
    return ("op", sign, a, b)


def make(name, *args):
    return ("make", name, args)


# Each sort of deed and of expression, blocks five within one another, a try of each form.
FULL_RULE = ("full", ("p", "q"), (
    ("let", "a", op("+", op("*", var("p"), ("number", -3)), op("-", NONE, var("r")))),
    ("note", op("<", var("q"), op("=", NONE, NONE))),
    ("while", var("a"), (
        ("if", var("b"), (
            ("try", (
                ("try", (("give", "c", ONE), ("leave",)), (), (("on", "d", make("tiny")),)),
            ), (("any", "e", (("close", var("e")),)), ("kind", "f", (("fault", "ring", NONE),))), ()),
        ), (
            ("leave",),
        )),
    )),
    ("try", (
        ("ask", "g", "h", make("full", NONE, make("tiny")), ONE),
    ), (
        ("full", "i", (("cast", "g", "h", var("i"), "close", NONE),)),
    ), (
        ("on", "a", var("i")),
        ("try", (("give", "a", NONE),), (), (("note", ONE),)),
    )),
    ("if", NONE, (("end", NONE),), ()),
))
TINY_RULE = ("tiny", (), (("end", NONE),))
BOOK = (FULL_RULE, TINY_RULE)


def one_rule(*deeds, params=()):
    """A book of one rule with these deeds."""
    return (("main", params, deeds),)


def with_expression(expression):
    """A book that has this expression, and rules for makes of no, one, two and three args."""
    rules = tuple(("with" + "abcd"[many], ("x", "y", "z")[:many], (("end", NONE),)) for many in range(4))
    return (("main", (), (("note", expression),)),) + rules


def paths_in(thing, ahead=()):
    """The path to each part of nested tuples, the thing itself too."""
    found = [ahead]
    if isinstance(thing, tuple):
        for at, part in enumerate(thing):
            found.extend(paths_in(part, ahead + (at,)))
    return found


def part_at(thing, path):
    for at in path:
        thing = thing[at]
    return thing


def changed_at(thing, path, part):
    """The same nested tuples, with another part at the path."""
    if not path:
        return part
    at = path[0]
    return thing[:at] + (changed_at(thing[at], path[1:], part),) + thing[at + 1:]
