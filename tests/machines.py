"""Codes of books of several sorts, and machine's halls by them."""

from handedon.books import is_book
from handedon.codehall import CodeHall
from handedon.codes import codes_of
from handedon.shorter import shortened
from tests.code_making import varied


def plain(book):
    return codes_of(book)


def short(book):
    return tuple(shortened(code) for code in codes_of(book))


def other(book):
    """Rows in another order, with jumps between and guards in pieces."""
    return tuple(varied(code, 3 * at + len(code[0])) for at, code in enumerate(codes_of(book)))


def other_short(book):
    return tuple(shortened(code) for code in other(book))


SORTS = (plain, short, other, other_short)


class Machine(CodeHall):
    """A machine's hall that is made as a walker's is, and tells the hops that a walker's would."""

    sort = staticmethod(plain)

    def __init__(self, book, most):
        super().__init__(book, self.sort(book) if is_book(book) else None, most)

    def chain_found(self, k):
        hops = self.hopped
        chain = super().chain_found(k)
        self.hopped = hops + len(chain)
        return chain


MACHINES = [type(f"Machine_{sort.__name__}", (Machine,), {"sort": staticmethod(sort)}) for sort in SORTS]
