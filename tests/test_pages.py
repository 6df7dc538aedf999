"""[7] to [9]: links and pages, sights, and what fits behind a sight."""

import itertools
import unittest

from pagesagain.errors import BadPage, BadRow, NoState, Refused
from pagesagain.machines import Machine, led, reached
from pagesagain.pages import (Link, check_page, check_sight, fitting, fitting_states, page_of, sent_states, sight_of)
from tests.helper import (GREAT, NO_INTEGERS, NO_SEQUENCES, ONE, SWITCH, WORN, Case, machines_of, no_numbers, rows_to,
                          short_histories, told_page, told_sight)

THREES = machines_of(3, 2)[5::97] + [WORN, Machine([(1, 2, 2), (0, 1, 2)])]


def pages_of(link):
    return sorted({told_page(link, row) for row in rows_to(link.machine.deeds, link.length + link.modulus)})


class Links(Case):
    def test_attributes(self):
        link = Link(WORN, 1, 12, 8, 9)
        self.assertEqual(link.machine, WORN)
        self.same((link.first, link.length, link.loss, link.modulus), (1, 12, 8, 9))
        self.same((Link(ONE, 0, 0, 0).length, Link(ONE, 0, 0, 0).loss, Link(ONE, 0, 0, 0).modulus), (0, 0, 1))
        self.assertEqual(Link(modulus=9, loss=8, length=12, first=1, machine=WORN), link)

    def test_equality(self):
        link = Link(WORN, 1, 2, 3, 4)
        self.assertIs(link == Link(Machine([[1, 2, 2], [0, 0, 1]]), 1, 2, 3, 4), True)
        self.assertIs(link != Link(WORN, 1, 2, 3, 4), False)
        self.assertIs(Link(WORN, 1, 2, 3) == Link(WORN, 1, 2, 3, 1), True)
        others = [Link(GREAT, 1, 2, 3, 4), Link(WORN, 0, 2, 3, 4), Link(WORN, 1, 1, 3, 4), Link(WORN, 1, 2, 2, 4),
                  Link(WORN, 1, 2, 3, 5), WORN, (WORN, 1, 2, 3, 4)]
        for other in others + NO_INTEGERS + NO_SEQUENCES:
            self.assertIs(link == other, False)
            self.assertIs(link != other, True)
            self.assertIs(other == link, False)

    def test_wrong_arguments(self):
        for value in no_numbers(0, 2):
            self.refuses(NoState, value, Link, WORN, value, 0, 0)
        for value in no_numbers(0, 12):
            self.refuses(Refused, value, Link, WORN, 0, value, 0)
        for value in no_numbers(0, 8):
            self.refuses(Refused, value, Link, WORN, 0, 0, value)
        for value in no_numbers(1, 9):
            self.refuses(Refused, value, Link, WORN, 0, 0, 0, value)
            self.refuses(Refused, value, Link, machine=WORN, first=0, length=0, loss=0, modulus=value)

    def test_the_first_wrong_argument_is_told(self):
        self.refuses(NoState, 3, Link, WORN, 3, 13, 9, 10)
        self.refuses(Refused, 13, Link, WORN, 2, 13, 9, 10)
        self.refuses(Refused, 9, Link, WORN, 2, 12, 9, 10)
        self.refuses(Refused, 10, Link, WORN, 2, 12, 8, 10)
        self.refuses(Refused, 0, Link, WORN, 2, 12, 8, 0)
        self.refuses(Refused, 13, Link, modulus=0, loss=9, length=13, first=0, machine=WORN)


class Pages(Case):
    def test_page_of_all_short_rows(self):
        for length, modulus in itertools.product((0, 1, 2, 3, 12), (1, 2, 3, 9)):
            link = Link(WORN, 0, length, 0, modulus)
            for row in rows_to(2, 5):
                self.same(page_of(link, row), told_page(link, row))
                self.same(page_of(link=link, row=list(row)), told_page(link, row))

    def test_long_rows(self):
        row = (0,) * 389 + (1, 0, 0) * 3 + (1, 1)
        self.same(page_of(Link(WORN, 0, 12, 0, 9), row), ((0,) + (1, 0, 0) * 3 + (1, 1), 4))
        self.same(page_of(Link(WORN, 0, 0, 0, 7), row), ((), 1))
        self.refuses(BadRow, -1, page_of, Link(WORN, 0, 1, 0), row + (0,))

    def test_wrong_rows(self):
        link = Link(WORN, 0, 2, 2)
        for value in NO_SEQUENCES + [[0] * 401]:
            self.refuses(BadRow, -1, page_of, link, value)
            self.refuses(BadRow, -1, sight_of, link, value)
        for value in no_numbers(0, 1):
            self.refuses(BadRow, 1, page_of, link, (0, value, value))
            self.refuses(BadRow, 0, sight_of, link, [value])

    def test_pages_are_just_those_that_can_be_sent(self):
        for length, modulus in itertools.product((0, 1, 2, 3), (1, 2, 3, 5)):
            link = Link(WORN, 0, length, 0, modulus)
            sent = pages_of(link)
            for page in itertools.product(rows_to(2, length + 1), range(-1, modulus + 2)):
                if page in sent:
                    self.same(check_page(link, [list(page[0]), page[1]]), page)
                    self.same(check_page(link=link, value=page), page)
                else:
                    fault = 0 if len(page[0]) > length else 1
                    self.refuses(BadPage, fault, check_page, link, page)

    def test_the_page_is_copied(self):
        page = [[0, 1], 1]
        told = check_page(Link(WORN, 0, 2, 0, 2), page)
        page[0].append(0)
        page[1] = 0
        self.same(told, ((0, 1), 1))

    def test_longest_pages(self):
        link = Link(GREAT, 0, 12, 8, 9)
        self.same(check_page(link, ([3] * 12, 8)), ((3,) * 12, 8))
        self.same(check_page(link, ([3] * 11, 2)), ((3,) * 11, 2))
        self.refuses(BadPage, 1, check_page, link, ([3] * 11, 3))
        self.refuses(BadPage, 0, check_page, link, ([3] * 13, 4))

    def wrong_everywhere(self, fault, link, page):
        """Where a page is passed, behind a sight, too."""
        self.refuses(BadPage, fault, check_page, link, page)
        self.refuses(BadPage, fault, sent_states, link, page)
        empty = sight_of(link, ())
        self.refuses(BadPage, fault, fitting, link, empty, page)
        self.refuses(BadPage, fault, fitting_states, link, sight=empty, page=page)
        sight = (0, page)
        for call in (check_sight, lambda link, value: fitting(link, value, ((), 0)),
                     lambda link, value: fitting_states(link, value, "no page")):
            self.refuses(Refused, sight, call, link, sight)

    def test_no_sequence_of_two_items(self):
        for link in (Link(WORN, 0, 2, 2), Link(ONE, 0, 0, 0, 2)):
            for value in NO_SEQUENCES + [[], (), [()], ((), 0, 0), [(), 0, None]]:
                self.wrong_everywhere(-1, link, value)

    def test_wrong_deeds(self):
        link = Link(WORN, 0, 2, 2, 3)
        for value in NO_SEQUENCES + [[0, 0, 0], (0,) * 401]:
            self.wrong_everywhere(0, link, (value, 0))
            self.wrong_everywhere(0, link, [value, "wrong, too"])
        for value in no_numbers(0, 1):
            self.wrong_everywhere(0, link, ([0, value], 2))

    def test_wrong_numbers(self):
        link = Link(WORN, 0, 2, 2, 3)
        for value in no_numbers(0, 2):
            self.wrong_everywhere(1, link, [(0, 1), value])
            self.wrong_everywhere(1, link, ((), value))
        for deeds, number in (((), 1), ((), 2), ((0,), 0), ((1,), 2)):
            self.wrong_everywhere(1, link, (deeds, number))
        for value in no_numbers(0, 0):
            self.wrong_everywhere(1, Link(WORN, 0, 2, 2), [(0, 1), value])


class Sights(Case):
    def test_sights_of_short_histories(self):
        for first, length, modulus in itertools.product(range(3), (0, 1, 2), (1, 2, 3)):
            link = Link(WORN, first, length, 2, modulus)
            for row in rows_to(2, 5):
                self.same(sight_of(link, row), told_sight(link, row))
                self.same(sight_of(link=link, row=list(row)), told_sight(link, row))
                self.same(check_sight(link, sight_of(link, row)), told_sight(link, row))

    def test_all_short_histories_of_small_machines(self):
        for machine in machines_of(1, 2) + machines_of(2, 1) + machines_of(2, 2) + machines_of(3, 1) + THREES:
            for first, length, modulus in itertools.product(range(machine.states), (0, 1, 2), (1, 2)):
                self.compare_sights(Link(machine, first, length, 1, modulus))
        for modulus in (3, 5, 9):
            for machine in machines_of(2, 1) + [Machine([(1, 2, 0)]), Machine([(1, 2, 1)])]:
                self.compare_sights(Link(machine, 0, 2, 1, modulus))

    def compare_sights(self, link):
        states = {page: set() for page in pages_of(link)}
        for row in short_histories(link):
            state, page = told_sight(link, row)
            states[page].add(state)
        for page, those in states.items():
            self.same(sent_states(link, page), tuple(sorted(those)))
            self.same(sent_states(link=link, page=[list(page[0]), page[1]]), tuple(sorted(those)))
            for state in range(link.machine.states):
                sight = [state, [list(page[0]), page[1]]]
                if state in those:
                    self.same(check_sight(link=link, value=sight), (state, page))
                else:
                    self.refuses(Refused, sight, check_sight, link, sight)

    def test_numbers_ahead_of_the_deeds(self):
        # The turn's state is its number of deeds, so its pages tell it whatever their length is.
        for length in (0, 1, 5, 12):
            link = Link(SWITCH, 0, length, 3, 2)
            self.same((sent_states(link, ((0,) * length, 0)), sent_states(link, ((0,) * length, 1))), ((0,), (1,)))
        self.same(sent_states(Link(SWITCH, 0, 3, 3), ((0, 0), 0)), (0,))
        self.same(sent_states(Link(SWITCH, 0, 2, 3), ((0, 0), 0)), (0, 1))
        self.same(sent_states(Link(GREAT, 3, 12, 8, 9), ((1,) * 12, 8)), tuple(range(8)))
        self.same(sent_states(Link(GREAT, 3, 12, 8, 9), ((1,) * 11 + (2,), 8)), (0,))
        self.same(sent_states(Link(GREAT, 3, 12, 8, 9), ((1,) * 11, 2)), (6,))

    def test_long_histories_count(self):
        # Of 8 states and 9 numbers, each pair comes only once in 72 deeds.
        hour = Machine([(1, 2, 3, 4, 5, 6, 7, 0)])
        self.same(sent_states(Link(hour, 0, 0, 0, 9), ((), 5)), tuple(range(8)))
        self.same(check_sight(Link(hour, 0, 12, 0, 9), (7, ([0] * 12, 0))), (7, ((0,) * 12, 0)))

    def test_values_that_are_no_sights(self):
        link = Link(WORN, 0, 1, 1)
        sight = (1, ((0,), 0))
        self.same(check_sight(link, [1, [[0], 0]]), sight)
        wrong = NO_SEQUENCES + [[], (), [1], (1, ((0,), 0), 0), (((0,), 0), 1), (0, ((0,), 0)), (2, ((), 0))]
        wrong += [(value, ((0,), 0)) for value in no_numbers(0, 2)]
        wrong += [[True, ((0,), 0)], (False, ((), 0)), (1, ((0,), False)), (1, ((False,), 0))]
        for value in wrong:
            self.refuses(Refused, value, check_sight, link, value)
            self.refuses(Refused, value, fitting, link, value, ((0,), 0))
            self.refuses(Refused, value, fitting, link, page="wrong, too", sight=value)
            self.refuses(Refused, value, fitting_states, link, value, ((0,), 0))
            self.refuses(Refused, value, fitting_states, link, value, "wrong, too")


class Fitting(Case):
    def test_all_rows_and_short_histories_of_small_machines(self):
        for machine in machines_of(1, 2) + machines_of(2, 1) + machines_of(2, 2) + machines_of(3, 1)[::4]:
            for length, loss, modulus in itertools.product((0, 1, 2), (0, 1, 3), (1, 2)):
                self.compare_fitting(Link(machine, 0, length, loss, modulus))
        for machine in THREES:
            self.compare_fitting(Link(machine, 0, 2, 2))
            self.compare_fitting(Link(machine, 1, 1, 3, 2))
            self.compare_fitting(Link(machine, 2, 3, 2))

    def test_greater_moduli_and_losses(self):
        for machine in (SWITCH, Machine([(1, 2, 0)]), Machine([(1, 2, 1)]), ONE):
            for length, modulus in itertools.product((0, 1, 4), (1, 3, 9)):
                self.compare_fitting(Link(machine, 0, length, 8, modulus))

    def compare_fitting(self, link):
        """With all rows that may be lost behind all short histories."""
        met = {}
        rows = rows_to(link.machine.deeds, link.loss)
        for history in short_histories(link):
            sight = told_sight(link, history)
            for row in rows:
                numbers, states = met.setdefault((sight, told_page(link, history + row)), (set(), set()))
                numbers.add(len(row))
                states.add(led(link.machine, sight[0], row))
        sights = sorted({sight for sight, _ in met})
        for sight, page in itertools.product(sights, pages_of(link)):
            numbers, states = met.get((sight, page), ((), ()))
            self.same(fitting(link, sight, page), tuple(sorted(numbers)))
            self.same(fitting_states(link, sight, page), tuple(sorted(states)))

    def test_by_names_and_lists(self):
        link = Link(WORN, 0, 2, 3)
        sight, page = [2, [[0, 0], 0]], [[0, 1], 0]
        self.same(fitting(link=link, sight=sight, page=page), (1, 2, 3))
        self.same(fitting_states(page=page, sight=sight, link=link), (1,))
        self.assertEqual((sight, page), ([2, [[0, 0], 0]], [[0, 1], 0]))

    def test_the_greatest_link(self):
        link = Link(GREAT, 0, 12, 8, 9)
        ahead = sight_of(link, (1,) * 40)
        self.same(fitting(link, ahead, page_of(link, (1,) * 48)), (8,))
        self.same(fitting_states(link, ahead, page_of(link, (1,) * 48)), (0,))
        # Nine deeds more are one round of the numbers, so they look like none.
        self.same(fitting(link, ahead, page_of(link, (1,) * 49)), (0,))
        self.same(fitting_states(link, ahead, page_of(link, (1,) * 49)), (0,))
        self.same(fitting(link, ahead, page_of(link, (1,) * 48 + (2,))), ())
        self.same(fitting_states(link, ahead, page_of(link, (1,) * 40 + (2,))), (0,))
        self.same(fitting(Link(GREAT, 0, 12, 8), (0, ((1,) * 12, 0)), ((1,) * 12, 0)), tuple(range(9)))
        self.same(fitting_states(Link(GREAT, 0, 12, 8), (0, ((1,) * 12, 0)), ((1,) * 12, 0)), tuple(range(8)))

    def test_deeds_that_the_page_does_not_tell_may_be_any(self):
        machine = Machine([(1, 2, 3, 3), (0, 0, 0, 0)])
        link = Link(machine, 0, 1, 3)
        self.same(fitting(link, (0, ((), 0)), ((0,), 0)), (1, 2, 3))
        self.same(fitting_states(link, (0, ((), 0)), ((0,), 0)), (1, 2, 3))
        empty = Link(machine, 0, 0, 2)
        self.same((fitting(empty, (3, ((), 0)), ((), 0)), fitting_states(empty, (3, ((), 0)), ((), 0))),
                  ((0, 1, 2), (0, 1, 3)))
        self.same(reached(machine, 3), (0, 1, 2, 3))

    def test_nothing_fits(self):
        link = Link(WORN, 0, 2, 1)
        sight = sight_of(link, (0, 0))
        for page in (((), 0), ((0,), 0), ((1, 1), 0), ((1, 0), 0)):
            self.same((fitting(link, sight, page), fitting_states(link, sight, page)), ((), ()))


if __name__ == "__main__":
    unittest.main()
