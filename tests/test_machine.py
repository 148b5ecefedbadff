"""Promise 29: each test of the walker's hall once more, of the machine's, whatever the codes; all but the hops."""

import unittest
from unittest import mock

from tests import test_halls, test_handers, test_handing
from tests.machines import MACHINES

PATCHED = ("tests.halling.TreeHall", "tests.test_halls.TreeHall", "tests.test_handers.TreeHall")


class OnMachine:
    """Ahead of a test case: walker's halls are machine's in it."""

    machine = None

    def setUp(self):
        super().setUp()
        for name in PATCHED:
            patch = mock.patch(name, self.machine)
            patch.start()
            self.addCleanup(patch.stop)


def cases_of(module):
    return [thing for thing in vars(module).values() if isinstance(thing, type) and issubclass(thing, unittest.TestCase)]


def add_cases():
    """Puts a case for each one of these modules, and each sort of code, where it is found."""
    for machine in MACHINES:
        for module in (test_halls, test_handing) + ((test_handers,) if machine in MACHINES[1:3] else ()):
            for case in cases_of(module):
                name = f"{machine.__name__}_{case.__name__}"
                globals()[name] = type(name, (OnMachine, case), {"machine": machine, "__module__": __name__})


add_cases()


if __name__ == "__main__":
    unittest.main()
