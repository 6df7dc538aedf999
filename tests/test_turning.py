"""[21] to [24]: rows that go round, and the numbers that help."""

import itertools
import unittest

from pagesagain.court import is_right, least_length
from pagesagain.errors import BadRow, NoState, Refused
from pagesagain.machines import Machine, led
from pagesagain.pages import Link, page_of
from pagesagain.turning import (good_moduli, least_modulus, turn_holds, turn_of, turn_paper, turned_rows,
                                turning_lengths)
from tests.helper import (GREAT, HOUR, LIFT, NO_SEQUENCES, ONE, STAIRS, SWITCH, WORN, Case, bent, machines_of,
                          no_numbers, rows_of, rows_to, turns_round, turns_some)

RING = Machine([(1, 2, 3, 4, 5, 6, 7, 0)])
MACHINES = machines_of(2, 2)[::2] + machines_of(3, 1) + machines_of(3, 2)[7::61] + [WORN, STAIRS, SWITCH, HOUR, LIFT]
SWAP = Machine([(1, 0, 2, 3, 4, 5, 6, 7), (1, 2, 3, 4, 5, 6, 7, 0), (0, 1, 2, 3, 4, 5, 7, 6), tuple(range(8))])


class TurnOf(Case):
    def test_by_doing_a_row_again_and_again(self):
        met = set()
        for machine in MACHINES:
            for state, row in itertools.product(range(machine.states), rows_to(machine.deeds, 3)):
                times = [many for many in range(1, machine.states + 1) if led(machine, state, row * many) == state]
                expected = times[0] if times else 0
                met.add(expected)
                self.same(turn_of(machine, state, row), expected)
                self.same(turn_of(machine=machine, state=state, row=list(row)), expected)
                self.assertEqual(turns_round(machine, state, row), expected > 1)
        self.assertEqual(met, {0, 1, 2, 3})

    def test_rings(self):
        self.same([turn_of(RING, 3, (0,) * many) for many in range(9)], [1, 8, 4, 8, 2, 8, 4, 8, 1])
        self.same([turn_of(RING, 0, (0,) * many) for many in (398, 399, 400)], [4, 8, 1])
        self.same([turn_of(Machine([(1, 2, 3, 1)]), state, (0,)) for state in range(4)], [0, 3, 3, 3])
        late = Machine([(1, 2, 3, 4, 5, 6, 7, 7)])
        self.same([turn_of(late, state, (0,)) for state in range(8)], [0] * 7 + [1])

    def test_wrong_arguments(self):
        for value in no_numbers(0, 2):
            self.refuses(NoState, value, turn_of, WORN, value, "no row")
        for value in NO_SEQUENCES + [[0] * 401]:
            self.refuses(BadRow, -1, turn_of, WORN, 0, value)
        for value in no_numbers(0, 1):
            self.refuses(BadRow, 1, turn_of, machine=WORN, state=0, row=[0, value])


class Lengths(Case):
    def lengths(self, machine, first, loss):
        return tuple(many for many in range(1, loss + 1)
                     if any(turns_some(machine, first, row) for row in rows_of(machine.deeds, many)))

    def test_by_all_rows(self):
        met = set()
        for machine in MACHINES:
            for first in range(machine.states):
                loss = 8 if machine.deeds == 1 else 4
                expected = self.lengths(machine, first, loss)
                met.add(expected)
                for less in range(loss + 1):
                    kept = tuple(many for many in expected if many <= less)
                    self.same(turning_lengths(machine, first, less), kept)
                    self.same(turning_lengths(machine=machine, first=first, loss=less), kept)
        self.assertGreater(len(met), 4)

    def test_only_states_that_come_count(self):
        machine = Machine([(0, 2, 1)])
        self.same((turning_lengths(machine, 0, 8), turning_lengths(machine, 1, 8)), ((), (1, 3, 5, 7)))
        self.same((turn_paper(machine, 0, 8), turn_paper(machine, 1, 8)), (None, ("turn", (), (0,))))

    def test_limits(self):
        self.same(turning_lengths(RING, 0, 8), (1, 2, 3, 4, 5, 6, 7))
        self.same((turning_lengths(SWAP, 0, 8), turning_lengths(GREAT, 0, 8)), (tuple(range(1, 9)),) * 2)
        self.same((turning_lengths(ONE, 0, 8), turning_lengths(RING, 0, 0)), ((), ()))
        # None of these deeds leads a state past one that was above it, so no row goes round: all must be looked at.
        stairs = Machine([(1, 2, 3, 4, 5, 6, 7, 7), (0, 0, 2, 3, 4, 5, 6, 7), (0, 1, 2, 3, 3, 5, 6, 7), (0,) * 8])
        self.same((turning_lengths(stairs, 0, 8), turn_paper(stairs, 0, 8)), ((), None))

    def test_wrong_arguments(self):
        for call in (turning_lengths, good_moduli, least_modulus):
            for value in no_numbers(0, 2):
                self.refuses(NoState, value, call, WORN, value, 9)
            for value in no_numbers(0, 8):
                self.refuses(Refused, value, call, WORN, 0, value)
                self.refuses(Refused, value, call, machine=WORN, first=0, loss=value)


class Paper(Case):
    def first_turn(self, machine, first, loss, modulus):
        """By all rows in their order."""
        for row in rows_to(machine.deeds, loss):
            if len(row) % modulus == 0 and turns_some(machine, first, row):
                for ahead in rows_to(machine.deeds, machine.states):
                    if turns_round(machine, led(machine, first, ahead), row):
                        return ("turn", ahead, row)
        return None

    def test_the_first_row_and_the_first_ahead(self):
        papers = 0
        for machine in MACHINES:
            loss = 7 if machine.deeds == 1 else 4
            for first, modulus in itertools.product(range(machine.states), (1, 2, 3, 4)):
                expected = self.first_turn(machine, first, loss, modulus)
                papers += expected is not None
                self.same(turn_paper(machine, first, loss, modulus), expected)
                self.same(turn_paper(machine=machine, first=first, loss=loss, modulus=modulus), expected)
                if expected is not None:
                    self.same(turn_holds(machine, first, loss, modulus, expected), True)
                    less = turn_paper(machine, first, len(expected[2]) - 1, modulus)
                    self.same(less, None)
        self.assertGreater(papers, 50)

    def test_limits(self):
        self.same([turn_paper(RING, 0, 8, modulus) for modulus in (1, 7, 8, 9)],
                  [("turn", (), (0,)), ("turn", (), (0,) * 7), None, None])
        self.same(turn_paper(GREAT, 0, 8, 8), ("turn", (), (0,) * 7 + (1,)))
        self.same((turn_paper(SWAP, 3, 8, 8), turn_paper(ONE, 0, 8)), (("turn", (), (0,) * 7 + (1,)), None))
        self.same(turn_paper(SWAP, 3, 1), ("turn", (1,) * 5, (0,)))

    def test_wrong_arguments(self):
        for value in no_numbers(0, 2):
            self.refuses(NoState, value, turn_paper, WORN, value, 9, 0)
            self.refuses(NoState, value, turn_holds, WORN, value, 9, 0, None)
            self.refuses(NoState, value, turned_rows, WORN, value, 13, 9, 0)
        for value in no_numbers(0, 12):
            self.refuses(Refused, value, turned_rows, WORN, 0, value, 9, 0)
        for value in no_numbers(0, 8):
            self.refuses(Refused, value, turn_paper, WORN, 0, value, 0)
            self.refuses(Refused, value, turn_holds, WORN, 0, value, 0, None)
            self.refuses(Refused, value, turned_rows, WORN, 0, 12, value, 0)
        for value in no_numbers(1, 9):
            self.refuses(Refused, value, turn_paper, machine=WORN, first=0, loss=8, modulus=value)
            self.refuses(Refused, value, turn_holds, machine=WORN, first=0, loss=8, modulus=value, value=None)
            self.refuses(Refused, value, turned_rows, machine=WORN, first=0, length=12, loss=8, modulus=value)


class Holds(Case):
    def test_all_short_rows(self):
        met = 0
        for machine in (HOUR, STAIRS, LIFT, Machine([(1, 2, 1), (0, 2, 1)])):
            for ahead, row in itertools.product(rows_to(machine.deeds, 2), rows_to(machine.deeds, 4)):
                turns = turns_round(machine, led(machine, 0, ahead), row)
                for loss, modulus in ((4, 1), (3, 1), (4, 2), (2, 2), (3, 3)):
                    holds = turns and len(row) <= loss and len(row) % modulus == 0
                    met += holds
                    self.same(turn_holds(machine, 0, loss, modulus, ("turn", ahead, row)), holds)
                    self.same(turn_holds(machine, 0, loss, modulus, ["turn", list(ahead), list(row)]), holds)
        self.assertGreater(met, 30)

    def test_values_of_any_kind(self):
        paper = ("turn", (0,), (0, 0))
        self.same(turn_holds(HOUR, 0, 2, 2, paper), True)
        for value in bent(paper):
            self.same(turn_holds(HOUR, 0, 2, 2, value), False)

    def test_rows_of_any_length(self):
        for many in (400, 401, 99999, 100000):
            self.same(turn_holds(HOUR, 0, 8, 1, ("turn", [0] * many, (0,))), True)
            self.same(turn_holds(HOUR, 0, 8, 1, ("turn", (), [0] * many)), False)
        machine = Machine([(1, 2, 2)])
        self.same(turn_holds(machine, 0, 8, 1, ("turn", [0] * 100000, (0,))), False)
        self.same(turn_holds(HOUR, 0, 8, 1, ("turn", [0] * 99999 + [1], (0,))), False)


class TurnedRows(Case):
    def test_two_rows_leave_one_page(self):
        met = 0
        for machine in MACHINES + [RING, SWAP]:
            for length, modulus in itertools.product((0, 1, 2, 5, 12), (1, 2, 3)):
                paper = turn_paper(machine, 0, 3, modulus)
                told = turned_rows(machine, 0, length, 3, modulus)
                self.same(turned_rows(machine=machine, first=0, length=length, loss=3, modulus=modulus), told)
                if paper is None:
                    self.same(told, None)
                    continue
                met += 1
                _, ahead, row = paper
                times = min(many for many in range(13) if many * len(row) >= length)
                one, other = ahead + row * times, ahead + row * times + row
                self.same(told, (one, other))
                link = Link(machine, 0, length, 3, modulus)
                self.assertEqual(page_of(link, one), page_of(link, other))
                self.assertNotEqual(led(machine, 0, one), led(machine, 0, other))
                self.assertTrue(other[:len(one)] == one and len(other) - len(one) <= 3)
        self.assertGreater(met, 50)

    def test_the_modulus_is_one_if_it_is_not_told(self):
        self.same((turned_rows(HOUR, 0, 1, 2), turn_paper(HOUR, 0, 2)), (((0,), (0, 0)), ("turn", (), (0,))))

    def test_none(self):
        self.same((turned_rows(ONE, 0, 12, 8), turned_rows(HOUR, 0, 12, 8, 9), turned_rows(HOUR, 0, 0, 0)), (None,) * 3)


class GoodModuli(Case):
    def test_they_divide_none_of_the_lengths(self):
        for machine in MACHINES + [RING, SWAP]:
            for first, loss in itertools.product(range(machine.states), (0, 1, 2, 4)):
                lengths = turning_lengths(machine, first, loss)
                expected = tuple(modulus for modulus in range(1, 10) if all(many % modulus for many in lengths))
                self.same(good_moduli(machine, first, loss), expected)
                self.same(least_modulus(machine=machine, first=first, loss=loss), expected[0])
                for modulus in range(1, 10):
                    self.assertEqual(turn_paper(machine, first, loss, modulus) is None, modulus in expected)

    def test_they_are_those_for_which_some_length_is_right(self):
        for machine in MACHINES[::2]:
            for loss in range(1, 4):
                good = good_moduli(machine=machine, first=0, loss=loss)
                for modulus in range(1, 6):
                    least = least_length(machine, 0, loss, modulus, most=20000)
                    self.assertEqual(least is not None, modulus in good)
                    enough = max(loss, loss * (machine.states - 1))
                    if modulus in good and machine.deeds ** enough < 200:
                        self.assertTrue(is_right(Link(machine, 0, enough, loss, modulus)))

    def test_limits(self):
        self.same((good_moduli(SWAP, 0, 8), least_modulus(SWAP, 0, 8)), ((9,), 9))
        self.same((good_moduli(RING, 0, 8), good_moduli(ONE, 0, 8)), ((8, 9), tuple(range(1, 10))))


if __name__ == "__main__":
    unittest.main()
