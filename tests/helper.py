"""What several tests need: values that are none of what is asked for, rows, machines, and checks of errors."""

import itertools
import unittest

from pagesagain.errors import BadMachine, BadPage, BadRow, BadText, NoDeed, NoState, PageError, Refused, TooGreat
from pagesagain.machines import Machine
from pagesagain.pages import Link

KEPT = {BadMachine: "at", BadRow: "at", BadPage: "at", BadText: "at", Refused: "at", TooGreat: "most",
        NoState: "state", NoDeed: "deed"}

WORN = Machine([(1, 2, 2), (0, 0, 1)])
ONE = Machine([(0,)])
GREAT = Machine([tuple(range(8)), (1, 2, 3, 4, 5, 6, 7, 0), (0,) * 8, (7,) * 8])


def nested(kind, deep):
    value = kind()
    for _ in range(deep - 1):
        value = kind([value])
    return value


OBJECTS = [Machine([(0,)]), Link(Machine([(1, 0)]), 1, 2, 3), PageError("x"), Refused(0), NoState(0), BadRow(at=[])]
NO_SEQUENCES = [True, False, None, "", "0", "01", 0, 1, 2, -1, 10 ** 30] + OBJECTS
NO_INTEGERS = [True, False, None, "", "0", "1", "ab", [], (), [0], (1,), [[]], ((0,), 0), [None, [True]],
               nested(list, 40), nested(tuple, 40)] + OBJECTS


def no_numbers(least, greatest):
    """Values that are no number from the least to the greatest one."""
    return NO_INTEGERS + [least - 1, greatest + 1, -1 - greatest, -10 ** 30, 10 ** 30]


def rows_to(deeds, longest):
    """All rows of at most so many deeds."""
    return [row for many in range(longest + 1) for row in itertools.product(range(deeds), repeat=many)]


def machines_of(states, deeds):
    """All machines of so many states and deeds."""
    tables = list(itertools.product(range(states), repeat=states))
    return [Machine(chosen) for chosen in itertools.product(tables, repeat=deeds)]


class Case(unittest.TestCase):
    def same(self, told, expected):
        """Equal, and of the same kinds within: no list for a tuple, no bool for an integer."""
        self.assertEqual(repr(told), repr(expected))

    def refuses(self, error, kept, call, *args, **named):
        """That just this error is raised, and keeps just this."""
        with self.assertRaises(error) as caught:
            call(*args, **named)
        self.assertIs(type(caught.exception), error)
        told = getattr(caught.exception, KEPT[error])
        if type(kept) is int:
            self.same(told, kept)
        else:
            self.assertIs(told, kept)
