"""The form of a book's text told a second time, in another way: which line is the first one amiss.

A line is looked at by one pattern for each sort of line, and how lines may come by one pattern over their sorts. A
beginning is one of some text if one of a few ends makes it whole: a deed under its last line, lasts for open tries.
"""

import functools
import itertools
import re

SHUT = "any|ask|cast|catch|close|else|end|fault|give|if|last|leave|make|none|note|on|rule|try|while"
LETTERS = "[a-z]{1,8}(?![a-z])"
NAME = f"(?!(?:{SHUT})(?![a-z])){LETTERS}"
WORD = f"(?!any(?![a-z])){LETTERS}"
NUMBER = "(?:0|-?[1-9][0-9]{0,29})(?![0-9])"


def expression_pattern(depth):
    leaf = f"none(?![a-z])|{NUMBER}|{NAME}|make {NAME}\\(\\)"
    if depth == 1:
        return f"(?:{leaf})"
    inner = expression_pattern(depth - 1)
    return f"(?:{leaf}|\\({inner} [-+*<=] {inner}\\)|make {NAME}\\({inner}(?:, {inner}){{0,2}}\\))"


E = f"({expression_pattern(4)})"
SORTS = {
    "r": f"rule {NAME}\\((?:{NAME}(?:, {NAME})*)?\\)",
    "s": f"{NAME} = {E}|note {E}|{NAME} = give {E}|{NAME} = on {E}|{NAME}, {NAME} = ask {E}, {E}"
         f"|{NAME}, {NAME} = cast {E}, {WORD} {E}|close {E}|end {E}|fault {WORD} {E}|leave",
    "i": f"if {E}",
    "e": "else",
    "w": f"while {E}",
    "t": "try",
    "c": f"catch {LETTERS} {NAME}",
    "l": "last",
}
PATTERNS = {sort: re.compile(pattern) for sort, pattern in SORTS.items()}
TUPLE = re.compile(r"make [a-z]+\(|\(|[a-z]+|-?[0-9]+")


def block_pattern(blanks):
    """Of a block whose lines have so many blanks, each line told as its blanks and its sort."""
    if blanks > 5:
        return "(?!)"
    inner = block_pattern(blanks + 1)
    some = f"(?:{inner})"
    tail = f"(?:(?:{blanks}c{some})+(?:{blanks}l{some})?|{blanks}l{some})"
    deed = f"{blanks}s|{blanks}w{some}|{blanks}i{some}(?:{blanks}e{some})?|{blanks}t{some}{tail}"
    return f"(?:{deed})+"


WHOLE = re.compile(f"(?:0r{block_pattern(1)})+")


@functools.lru_cache(maxsize=None)
def sort_of(line):
    """The line as its blanks and its sort, or "" where it is none."""
    text = line.lstrip(" ")
    blanks = len(line) - len(text)
    for sort, pattern in PATTERNS.items():
        found = pattern.fullmatch(text)
        if found and blanks <= 5 and all(len(TUPLE.findall(e)) <= 9 for e in found.groups() if e):
            return f"{blanks}{sort}"
    return ""


def is_whole(sorts):
    """Whether these lines, a tuple of their sorts, make a whole text."""
    return WHOLE.fullmatch("".join(sorts)) is not None


def ends_of(sorts):
    """Ends one of which makes each beginning that can be made whole so."""
    under = (f"{int(sorts[-1][0]) + 1}s",)
    for first in ((), under):
        for picked in itertools.product((False, True), repeat=4):
            tries = [blanks for blanks, there in zip((4, 3, 2, 1), picked) if there]
            yield first + tuple(part for blanks in tries for part in (f"{blanks}l", f"{blanks + 1}s"))


@functools.lru_cache(maxsize=None)
def may_begin(sorts):
    """Whether some whole text begins with these lines."""
    return "" not in sorts and any(is_whole(sorts + end) for end in ends_of(sorts))


def first_amiss(text):
    """The number of the first line that is amiss, or the count of lines where the text is not whole; else None."""
    sorts = ()
    for at, line in enumerate(text.split("\n")):
        sorts += (sort_of(line),)
        if not may_begin(sorts):
            return at
    return None if is_whole(sorts) else len(sorts)
