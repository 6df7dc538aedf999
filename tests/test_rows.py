"""[6]: how rows repeat, and their numbers."""

import itertools
import unittest
from math import gcd

from pagesagain.errors import BadRow, Refused
from pagesagain.machines import Machine
from pagesagain.rows import nth_row, repeat_end, repeat_steps, row_place
from tests.helper import GREAT, NO_SEQUENCES, ONE, WORN, Case, no_numbers, rows_to

THREE = Machine([(0,), (0,), (0,)])


def repeats(row, step):
    """As the document tells it, word by word."""
    return all(row[at] == row[at - step] for at in range(len(row)) if at - step >= 0)


def longest_end(row, step):
    return max(many for many in range(len(row) + 1) if repeats(row[len(row) - many:], step))


class Repeats(Case):
    def test_all_short_rows(self):
        for machine, longest in ((ONE, 6), (WORN, 7), (THREE, 5)):
            for row in rows_to(machine.deeds, longest):
                for step in range(1, longest + 3):
                    self.same(repeat_end(machine, row, step), longest_end(row, step))
                expected = tuple(step for step in range(1, len(row)) if repeats(row, step))
                self.same(repeat_steps(machine, list(row)), expected)

    def test_edges(self):
        self.same((repeat_end(WORN, (), 1), repeat_end(WORN, [], 400), repeat_steps(WORN, ())), (0, 0, ()))
        self.same((repeat_end(WORN, (1,), 1), repeat_end(WORN, (1,), 400), repeat_steps(WORN, (1,))), (1, 1, ()))
        self.same((repeat_end(WORN, (0, 1), 1), repeat_steps(WORN, (0, 1)), repeat_steps(WORN, [1, 1])), (1, (), (1,)))
        self.same(repeat_end(machine=WORN, row=[1, 0, 1, 0, 0, 1, 0], step=3), 6)
        self.same(repeat_steps(machine=WORN, row=(0, 1, 0, 1, 0)), (2, 4))

    def test_long_rows(self):
        row = (0, 1) * 200
        self.same([repeat_end(WORN, row, step) for step in (1, 2, 3, 398, 399, 400)], [1, 400, 3, 400, 399, 400])
        self.same(repeat_steps(WORN, row), tuple(range(2, 400, 2)))
        self.same(repeat_end(WORN, (1,) + (0,) * 399, 1), 399)
        self.same(repeat_steps(WORN, (0,) * 399 + (1,)), ())
        self.same(repeat_steps(ONE, [0] * 400), tuple(range(1, 400)))

    def test_two_steps_give_their_divisor(self):
        met = 0
        for machine, longest in ((WORN, 9), (THREE, 6)):
            for row in rows_to(machine.deeds, longest):
                whole = [step for step in range(1, longest + 1) if repeat_end(machine, row, step) == len(row)]
                for one, other in itertools.combinations(whole, 2):
                    if len(row) >= one + other - gcd(one, other):
                        self.assertEqual(repeat_end(machine, row, gcd(one, other)), len(row))
                        met += gcd(one, other) < one
        self.assertGreater(met, 0)
        # One deed fewer is not enough.
        self.same(repeat_steps(WORN, (0, 1, 0, 0, 1, 0)), (3, 5))

    def test_wrong_rows(self):
        for value in NO_SEQUENCES + [[0] * 401]:
            self.refuses(BadRow, -1, repeat_end, WORN, value, 1)
            self.refuses(BadRow, -1, repeat_steps, WORN, value)
            self.refuses(BadRow, -1, row_place, WORN, value)
        for value in no_numbers(0, 1):
            self.refuses(BadRow, 1, repeat_end, WORN, [0, value], 1)
            self.refuses(BadRow, 0, repeat_steps, WORN, [value, value])
            self.refuses(BadRow, 399, row_place, WORN, [0] * 399 + [value])

    def test_wrong_steps(self):
        for value in no_numbers(1, 400):
            self.refuses(Refused, value, repeat_end, WORN, (0, 1), value)
            self.refuses(Refused, value, repeat_end, machine=WORN, row=(), step=value)
            self.refuses(BadRow, 0, repeat_end, WORN, (2,), value)


class Numbers(Case):
    def test_all_short_rows(self):
        for machine in (ONE, WORN, THREE, GREAT):
            for many in range(4):
                rows = list(itertools.product(range(machine.deeds), repeat=many))
                for number, row in enumerate(rows):
                    self.same(nth_row(machine, many, number), row)
                    self.same(row_place(machine, list(row)), number)
                self.refuses(Refused, len(rows), nth_row, machine, many, len(rows))

    def test_long_rows(self):
        last = 4 ** 400 - 1
        self.same((nth_row(GREAT, 400, last), row_place(GREAT, (3,) * 400)), ((3,) * 400, last))
        self.same(nth_row(GREAT, 400, 4 ** 399), (1,) + (0,) * 399)
        self.same(nth_row(machine=WORN, many=400, number=1), (0,) * 399 + (1,))
        self.same((nth_row(ONE, 400, 0), row_place(machine=ONE, row=[0] * 400)), ((0,) * 400, 0))
        self.refuses(Refused, last + 1, nth_row, GREAT, 400, last + 1)

    def test_wrong_lengths(self):
        for value in no_numbers(0, 400):
            self.refuses(Refused, value, nth_row, WORN, value, 0)
            self.refuses(Refused, value, nth_row, WORN, value, None)

    def test_wrong_numbers(self):
        for many in (0, 1, 3, 400):
            for value in no_numbers(0, 2 ** many - 1):
                if value != 10 ** 30 or many < 100:
                    self.refuses(Refused, value, nth_row, WORN, many, value)
        for value in no_numbers(0, 0):
            self.refuses(Refused, value, nth_row, ONE, 400, value)


if __name__ == "__main__":
    unittest.main()
