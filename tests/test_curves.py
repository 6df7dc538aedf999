"""[35], [36]: how many pages there are, lengths by modulus, and the cheapest page."""

import itertools
import unittest

from pagesagain.court import least_length
from pagesagain.curves import cheapest_page, lengths_by_modulus, page_count
from pagesagain.errors import NoState, Refused, TooGreat
from pagesagain.machines import Machine, reached
from pagesagain.pages import Link
from tests.helper import (GREAT, HOUR, LIFT, ONE, STAIRS, SWITCH, WORN, Case, machines_of, no_numbers, rows_to,
                          told_colouring, told_open, told_page)

THREE_DEEDS = Machine([(1, 0), (0, 0), (1, 1)])
MACHINES = machines_of(2, 2)[::3] + machines_of(3, 1)[::5] + machines_of(3, 2)[4::181] + [WORN, STAIRS, SWITCH, HOUR]


class PageCount(Case):
    def test_by_all_rows(self):
        for machine, length, modulus in itertools.product((WORN, SWITCH, THREE_DEEDS), range(5), (1, 2, 3, 4)):
            link = Link(machine, 1, length, 2, modulus)
            pages = {told_page(link, row) for row in rows_to(machine.deeds, length + modulus - 1)}
            self.same(page_count(link), len(pages))
            self.same(page_count(link=link), len(pages))

    def test_losses_and_first_states_do_not_matter(self):
        for first, loss in itertools.product(range(3), (0, 1, 8)):
            self.same(page_count(Link(WORN, first, 3, loss, 2)), 1 + 2 + 4 + 8 * 2)

    def test_greatest_ones(self):
        self.same(page_count(Link(GREAT, 0, 12, 8, 9)), (4 ** 12 - 1) // 3 + 4 ** 12 * 9)
        self.same([page_count(link) for link in (Link(ONE, 0, 12, 8, 9), Link(ONE, 0, 0, 0), Link(ONE, 0, 0, 0, 9))],
                  [21, 1, 9])


class LengthsByModulus(Case):
    def least(self, machine, loss, modulus):
        """By trying lengths one by one."""
        for length in range((machine.states - 1) * loss + 1):
            if not told_open(Link(machine, 0, length, loss, modulus)):
                return length
        return None

    def test_by_all_lengths(self):
        for machine in MACHINES:
            for loss in range(3 if machine.deeds == 2 else 5):
                expected = tuple(self.least(machine, loss, modulus) for modulus in range(1, loss + 2))
                self.same(lengths_by_modulus(machine, 0, loss), expected)
                self.same(lengths_by_modulus(loss=loss, first=0, machine=machine), expected)

    def test_the_last_one_and_those_that_a_modulus_divides(self):
        for machine in MACHINES + [LIFT]:
            for first, loss in itertools.product(range(machine.states), range(4)):
                lengths = lengths_by_modulus(machine, first, loss)
                self.same(lengths, tuple(least_length(machine, first, loss, at) for at in range(1, loss + 2)))
                self.assertTrue(0 <= lengths[-1] <= loss)
                for less, more in itertools.product(range(1, loss + 2), repeat=2):
                    if more % less == 0 and lengths[less - 1] is not None:
                        self.assertLessEqual(lengths[more - 1], lengths[less - 1])

    def test_some(self):
        self.same(lengths_by_modulus(HOUR, 0, 8), (None, None, 0, None, None, 0, None, None, 0))
        self.same((lengths_by_modulus(GREAT, 7, 0), lengths_by_modulus(ONE, 0, 3)), ((0,), (0,) * 4))

    def test_too_great_where_it_is_told(self):
        still = Machine([tuple(range(8))] * 4)
        for machine, loss in itertools.product((GREAT, still), (1, 5, 6, 8)):
            told = []
            try:
                told = [least_length(machine, 0, loss, modulus) for modulus in range(1, loss + 2)]
            except TooGreat:
                self.refuses(TooGreat, 4000, lengths_by_modulus, machine, 0, loss)
            else:
                self.same(lengths_by_modulus(machine, 0, loss), tuple(told))
        # There are more than 4,000 rows of so many deeds, and so more sights for each length that is right.
        self.refuses(TooGreat, 4000, lengths_by_modulus, Machine([(1, 2, 3, 4, 5, 6, 7, 0)] * 4), 0, 8)

    def test_wrong_arguments(self):
        for call in (lengths_by_modulus, cheapest_page):
            for value in no_numbers(0, 2):
                self.refuses(NoState, value, call, WORN, value, 9)
            for value in no_numbers(0, 8):
                self.refuses(Refused, value, call, WORN, 2, value)
                self.refuses(Refused, value, call, machine=WORN, first=0, loss=value)


class CheapestPage(Case):
    def cheapest(self, machine, first, loss):
        """By all lengths, moduli and colours, but pages that alone have more kinds than there are states."""
        costs = []
        for length, modulus in itertools.product(range(13), range(1, loss + 2)):
            kinds = machine.deeds ** length * modulus
            if kinds <= machine.states:
                pairs = told_open(Link(machine, first, length, loss, modulus))
                colours = max(told_colouring(machine.states, pairs)) + 1
                costs.append((kinds * colours, (length, modulus, colours)))
        return min(costs)

    def test_by_all_pages_that_can_be_as_cheap(self):
        met = set()
        others = machines_of(4, 1)[::29] + [LIFT, Machine([(1, 1, 3, 3), (2, 3, 2, 3)]), THREE_DEEDS]
        for machine in MACHINES + others + machines_of(3, 2)[::97]:
            for loss in range(4):
                cost, expected = self.cheapest(machine, 0, loss)
                self.same(cheapest_page(machine, 0, loss), expected)
                self.same(cheapest_page(loss=loss, machine=machine, first=0), expected)
                self.assertLessEqual(cost, len(reached(machine, 0)))
                met.add(expected)
        # Pages with deeds, with numbers, and with colours.
        self.assertTrue(all(any(told[at] > least for told in met) for at, least in enumerate((0, 1, 1))))

    def test_other_first_states(self):
        for machine, loss in itertools.product((WORN, STAIRS, LIFT), (1, 2)):
            for first in range(machine.states):
                self.same(cheapest_page(machine, first, loss), self.cheapest(machine, first, loss)[1])

    def test_of_one_deed_all_lengths_are_as_cheap(self):
        stair = Machine([(1, 2, 3, 3)])
        self.same([cheapest_page(stair, 0, loss) for loss in range(4)], [(0, 1, 1)] + [(3, 1, 1)] * 3)
        late = Machine([(1, 2, 3, 4, 5, 6, 7, 7)])
        self.same([cheapest_page(late, first, 8) for first in (0, 4, 7)], [(7, 1, 1), (3, 1, 1), (0, 1, 1)])

    def test_greater_machines(self):
        for loss in (0, 1, 8):
            length, modulus, colours = cheapest_page(GREAT, 0, loss)
            self.assertTrue(4 ** length * modulus * colours <= 8 and modulus <= loss + 1)


if __name__ == "__main__":
    unittest.main()
