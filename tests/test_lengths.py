"""[18] to [20]: the least length from the losses on, papers for a length, rounds, and either-or."""

import itertools
import unittest

from pagesagain.court import is_right, least_length
from pagesagain.errors import NoState, Refused
from pagesagain.lengths import least_from, length_paper, rounds_of
from pagesagain.machines import Machine, led, reached
from pagesagain.pages import Link
from pagesagain.repeats import harm_holds, harm_of
from tests.helper import (GREAT, HOUR, LIFT, ONE, STAIRS, SWITCH, WORN, Case, machines_of, no_numbers, rows_of,
                          rows_to, told_open)

STAIR = Machine([(1, 2, 3, 4, 5, 6, 7, 7), tuple(range(8))])
MACHINES = machines_of(2, 2)[::2] + machines_of(3, 1)[::2] + machines_of(3, 2)[7::121] + [WORN, STAIRS, SWITCH, HOUR]
SHORT = [(1, 1), (2, 1), (2, 2), (3, 1), (3, 2), (2, 3)]


class LeastFrom(Case):
    def test_by_all_lengths(self):
        met = set()
        for machine, (loss, modulus) in itertools.product(MACHINES, SHORT):
            least = least_from(machine, 0, loss, modulus)
            met.add(least)
            for length in range(loss, 6):
                right = not told_open(Link(machine, 0, length, loss, modulus))
                self.assertEqual(right, least is not None and length >= least)
        self.assertLessEqual({None, 1, 2, 3, 4}, met)

    def test_by_right_links(self):
        for machine in (WORN, STAIRS, HOUR, LIFT, Machine([(1, 2, 3, 3), (0, 0, 0, 0)])):
            for first, loss, modulus in itertools.product(range(machine.states), range(4), (1, 2, 3)):
                least = least_from(machine=machine, first=first, loss=loss, modulus=modulus)
                right = [length for length in range(loss, 9) if is_right(Link(machine, first, length, loss, modulus))]
                if least is None or least > 8:
                    self.assertEqual(right, [])
                else:
                    self.assertEqual(right, list(range(least, 9)))

    def test_by_ends_that_do_harm(self):
        for machine, (loss, modulus) in itertools.product(MACHINES, SHORT):
            steps = [(step, more) for step in range(1, loss + 1) for more in range(loss) if step % modulus == 0]
            told = [(more, harm_of(machine, 0, step, more)) for step, more in steps if step + more <= loss]
            expected = max([loss] + [1 + more + ends[1] for more, ends in told if ends[0] == "ends"])
            if ("endless",) in [ends for _, ends in told]:
                expected = None
            self.same(least_from(machine, 0, loss, modulus), expected)

    def test_a_modulus_above_the_loss(self):
        for machine in MACHINES + [GREAT, STAIR]:
            for loss in range(9):
                for modulus in range(loss + 1, 10):
                    self.same(least_from(machine, 0, loss, modulus), loss)

    def test_lengths_above_twelve(self):
        # Each of seven steps may be done as often as deeds are lost.
        self.same([least_from(STAIR, 0, loss) for loss in range(9)], [7 * loss for loss in range(9)])
        self.same([least_from(STAIR, 0, 8, modulus) for modulus in (2, 4, 8, 9)], [56, 56, 56, 8])
        self.same([least_from(STAIR, 5, 8), least_from(STAIR, 7, 8)], [16, 8])
        self.same(least_from(GREAT, 0, 4), None)

    def test_one_state_and_no_losses(self):
        self.same([least_from(ONE, 0, loss) for loss in range(9)], list(range(9)))
        self.same([least_from(machine, 0, 0) for machine in (SWITCH, GREAT, STAIR)], [0, 0, 0])

    def test_wrong_arguments(self):
        for value in no_numbers(0, 2):
            self.refuses(NoState, value, least_from, WORN, value, 9, 0)
        for value in no_numbers(0, 8):
            self.refuses(Refused, value, least_from, WORN, 0, value, 0)
        for value in no_numbers(1, 9):
            self.refuses(Refused, value, least_from, machine=WORN, first=2, loss=8, modulus=value)


class LengthPaper(Case):
    def test_just_where_the_link_is_wrong(self):
        papers = 0
        for machine, (loss, modulus) in itertools.product(MACHINES, SHORT):
            least = least_from(machine, 0, loss, modulus)
            for length in list(range(loss, 7)) + [12]:
                if least is not None and length >= least:
                    self.same(length_paper(machine, 0, length, loss, modulus), None)
                else:
                    papers += 1
                    self.shows(machine, 0, length, loss, modulus)
        self.assertGreater(papers, 100)

    def shows(self, machine, first, length, loss, modulus):
        told = length_paper(machine, first, length, loss, modulus)
        step, more, paper = told
        self.same(told, (int(step), int(more), tuple(paper)))
        self.assertTrue(step >= 1 and more >= 0 and step + more <= loss and step % modulus == 0)
        self.same(harm_holds(machine, first, step, more, length - more, paper), True)
        # Two histories that the page does not tell apart, though no more deeds than the loss lie between them.
        _, row, behind = paper
        pages = [(row + behind)[-length:], (row + row[len(row) - step:] + behind)[-length:]]
        self.assertEqual(pages[0], pages[1])
        again = led(machine, first, row + row[len(row) - step:] + behind)
        self.assertNotEqual(led(machine, first, row + behind), again)
        self.same(length_paper(machine=machine, first=first, length=length, loss=loss, modulus=modulus), told)

    def test_limits(self):
        for loss in (4, 8):
            for modulus in (1, 2, 4):
                self.shows(STAIR, 0, 12, loss, modulus)
        self.shows(GREAT, 7, 12, 4, 1)
        self.shows(SWITCH, 1, 12, 8, 7)
        self.same(length_paper(GREAT, 7, 12, 8, 9), None)
        self.same(length_paper(HOUR, 0, 3, 1), length_paper(HOUR, 0, 3, 1, 1))
        self.same([length_paper(GREAT, 0, length, 0) for length in (0, 1, 12)], [None] * 3)
        self.same(length_paper(ONE, 0, 8, 8), None)

    def test_wrong_arguments(self):
        for value in no_numbers(0, 2):
            self.refuses(NoState, value, length_paper, WORN, value, 13, 9, 0)
        for value in no_numbers(0, 12):
            self.refuses(Refused, value, length_paper, WORN, 0, value, 9, 0)
        for length in (0, 1, 7, 8, 12):
            for value in no_numbers(0, min(length, 8)):
                self.refuses(Refused, value, length_paper, WORN, 0, length, value, 0)
        for value in no_numbers(1, 9):
            self.refuses(Refused, value, length_paper, machine=WORN, first=2, length=8, loss=8, modulus=value)


class Rounds(Case):
    def rounds(self, machine, first, loss):
        """By doing all rows again and again."""
        most = 0
        for row in rows_to(machine.deeds, loss):
            for state in reached(machine, first):
                met = []
                while state not in met:
                    met.append(state)
                    state = led(machine, state, row)
                if state != met[-1]:
                    return None
                most = max(most, len(met) - 1)
        return most

    def test_all_rows(self):
        met = set()
        for machine in MACHINES + [LIFT, Machine([(1, 2, 3, 3), (0, 0, 0, 0)])]:
            for first, loss in itertools.product(range(machine.states), range(4)):
                expected = self.rounds(machine, first, loss)
                met.add(expected)
                self.same(rounds_of(machine, first, loss), expected)
                self.same(rounds_of(machine=machine, first=first, loss=loss), expected)
        self.assertEqual(met, {None, 0, 1, 2, 3})

    def test_what_they_tell_of_lengths(self):
        for machine in MACHINES + [LIFT, STAIR]:
            for first, loss in itertools.product((0, machine.states - 1), range(5)):
                rounds = rounds_of(machine, first, loss)
                least = least_from(machine, first, loss)
                self.assertEqual(rounds is None, least is None)
                if rounds is not None:
                    self.assertLessEqual(least, max(loss, (machine.states - 1) * loss))
                    self.assertLessEqual(least, max(loss, rounds * loss))
                    self.assertLess(rounds, machine.states)
                    if rounds * loss <= 5 and rounds >= 1 and machine.states < 5:
                        self.assertEqual(told_open(Link(machine, first, rounds * loss, loss)), ())

    def test_limits(self):
        self.same([rounds_of(STAIR, first, 8) for first in range(8)], [7, 6, 5, 4, 3, 2, 1, 0])
        self.same((rounds_of(GREAT, 0, 4), rounds_of(SWITCH, 0, 8), rounds_of(ONE, 0, 8)), (None, None, 0))
        self.same((rounds_of(SWITCH, 0, 0), rounds_of(GREAT, 3, 0)), (0, 0))

    def test_wrong_arguments(self):
        for value in no_numbers(0, 2):
            self.refuses(NoState, value, rounds_of, WORN, value, 9)
        for value in no_numbers(0, 8):
            self.refuses(Refused, value, rounds_of, WORN, 0, value)
            self.refuses(Refused, value, rounds_of, machine=WORN, first=0, loss=value)


class EitherOr(Case):
    def window(self, machine, first, greatest):
        """The least number of deeds, to the greatest, such that all rows lead all states that come to one."""
        for many in range(greatest + 1):
            if all(len({led(machine, state, row) for state in reached(machine, first)}) == 1
                   for row in rows_of(machine.deeds, many)):
                return many
        return None

    def test_a_page_tells_by_itself_or_is_as_long_as_the_losses(self):
        resets = [Machine([(0, 0, 0), (1, 1, 1)]), Machine([(1, 2, 3, 3)]), Machine([(1, 1, 2), (2, 2, 2)])]
        met = set()
        for machine in MACHINES + machines_of(3, 2)[50::97] + resets:
            for first, loss in itertools.product((0, 1), range(4)):
                window = self.window(machine, first, loss - 1)
                least = least_length(machine, first, loss)
                right = [length for length in range(loss) if is_right(Link(machine, first, length, loss))]
                if window is None:
                    self.assertEqual(right, [])
                    self.same(least, least_from(machine, first, loss))
                else:
                    self.assertEqual(right, list(range(window, loss)))
                    self.same(least, window)
                met.add(window)
        self.assertEqual(met, {None, 0, 1, 2})


if __name__ == "__main__":
    unittest.main()
