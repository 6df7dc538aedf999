"""[11], [12]: the sights that come, and what is heard behind them."""

import itertools
import unittest

from pagesagain.errors import BadPage, Refused, TooGreat
from pagesagain.machines import Machine, led
from pagesagain.pages import Link, fitting_states, page_of, sight_of
from pagesagain.sights import heard_sight, sight_row, sights_of
from tests.helper import (ANY, GREAT, HOUR, LIFT, NO_SEQUENCES, ONE, STAIRS, SWITCH, WORN, Case, machines_of,
                          no_numbers, rows_to, short_histories, told_page, told_sight, told_sights)

LINKS = [Link(machine, 0, length, loss, modulus)
         for machine in machines_of(2, 2)[::3] + machines_of(3, 1)[::7] + [WORN, STAIRS, SWITCH, HOUR]
         for length, loss, modulus in ((0, 1, 1), (1, 2, 1), (2, 1, 1), (1, 2, 2), (2, 3, 3))]
# Just so many sights come over these links.
JUST = [(3999, Link(Machine([(1, 1, 3, 3, 4, 5), (4, 3, 2, 2, 0, 5)]), 0, 10, 8, 2)),
        (4000, Link(Machine([(2, 1, 0, 1), (1, 1, 2, 3), (2, 1, 3, 3)]), 0, 7, 4)),
        (4001, Link(Machine([(6, 1, 7, 3, 4, 5, 2, 0), (0, 6, 2, 3, 7, 5, 6, 7), (6, 1, 2, 3, 5, 7, 6, 7),
                             (3, 1, 2, 3, 4, 5, 0, 7)]), 0, 5, 4))]


class SightsThatCome(Case):
    def test_all_of_them_ascending(self):
        for link in LINKS:
            expected = sorted({told_sight(link, row) for row in short_histories(link)[:5000]})
            self.same(sights_of(link), tuple(expected))
            self.assertEqual(sorted(told_sights(link)), expected)

    def test_the_first_row_of_each(self):
        for link in LINKS:
            first = {}
            # These rows stand with the shortest ones ahead, the least of each length first.
            for row in short_histories(link)[:5000]:
                first.setdefault(told_sight(link, row), row)
            for sight, row in first.items():
                self.same(sight_row(link, sight), row)
                self.same(sight_row(link=link, sight=[sight[0], [list(sight[1][0]), sight[1][1]]]), row)

    def test_greater_links(self):
        link = Link(GREAT, 5, 3, 8, 4)
        found = told_sights(link)
        self.same(sights_of(link=link), tuple(sorted(found)))
        for sight in list(found)[::17]:
            self.same(sight_row(link, sight), found[sight])
        hour = Link(Machine([(1, 2, 3, 4, 5, 6, 7, 0)]), 0, 12, 0, 9)
        self.assertEqual(len(sights_of(hour)), 12 + 72)
        self.same(sight_row(hour, (7, ([0] * 12, 8))), (0,) * 71)

    def test_values_that_are_no_sights_that_come(self):
        for link in (Link(WORN, 0, 1, 1), JUST[2][1]):
            wrong = ANY + [[], [1], (1, ((0,), 0), 0), (((0,), 0), 1), [True, ((0,), 0)], (1, ((0,), False)),
                           (1, ((), 0)), (1, ((0,) * 13, 0)), (0, ((), 1))]
            for value in wrong + [(value, ((0,), 0)) for value in no_numbers(0, 7)] + [(0, value) for value in ANY]:
                self.refuses(Refused, value, sight_row, link, value)
                self.refuses(Refused, value, heard_sight, link, value, ((0,), 0))
                self.refuses(Refused, value, heard_sight, link, page="wrong, too", sight=value)
        for sight in ((0, ((0,), 0)), (2, ((), 0))):
            self.refuses(Refused, sight, sight_row, Link(WORN, 0, 1, 1), sight)

    def test_sights_that_do_not_come_from_this_first_state(self):
        link = Link(Machine([(0, 2, 2)]), 1, 2, 1)
        self.same(sights_of(link), ((1, ((), 0)), (2, ((0,), 0)), (2, ((0, 0), 0))))
        for sight in ((0, ((0, 0), 0)), (1, ((0, 0), 0)), (0, ((), 0))):
            self.refuses(Refused, sight, sight_row, link, sight)


class TooMany(Case):
    def test_just_above_4000(self):
        for many, link in JUST:
            self.assertEqual(len(told_sights(link)), many)
            if many <= 4000:
                self.assertEqual(len(sights_of(link)), many)
                self.same(sight_row(link, sight_of(link, ())), ())
            else:
                self.refuses(TooGreat, 4000, sights_of, link)
                self.refuses(TooGreat, 4000, sight_row, link, sight_of(link, ()))
                self.refuses(TooGreat, 4000, sight_row, link, sight_of(link, (0,) * 9))

    def test_by_the_length(self):
        machine = Machine([(0,), (0,)])
        self.assertEqual(len(sights_of(Link(machine, 0, 10, 8))), 2047)
        for length in (11, 12):
            self.refuses(TooGreat, 4000, sights_of, Link(machine, 0, length, 0))
        self.refuses(TooGreat, 4000, sights_of, Link(GREAT, 0, 12, 8, 9))

    def test_behind_other_errors(self):
        link = Link(GREAT, 0, 12, 8, 9)
        for value in ANY + [(0, ((0,), 0)), (1, ((), 0))]:
            self.refuses(Refused, value, sight_row, link, value)

    def test_what_is_heard_needs_none_of_them(self):
        link = Link(GREAT, 0, 12, 8, 9)
        sight = sight_of(link, (1,) * 40)
        self.same(heard_sight(link, sight, page_of(link, (1,) * 47)), sight_of(link, (1,) * 47))


class Hearing(Case):
    def test_all_short_runs(self):
        left = 0
        for link in LINKS:
            lost = rows_to(link.machine.deeds, link.loss)
            for sight, history in told_sights(link).items():
                states = {}
                for row in lost:
                    page = told_page(link, history + row)
                    states.setdefault(page, set()).add(led(link.machine, sight[0], row))
                for page, those in states.items():
                    expected = (min(those), page) if len(those) == 1 else None
                    left += expected is None
                    self.same(heard_sight(link, sight, page), expected)
                    self.same(heard_sight(page=[list(page[0]), page[1]], sight=list(sight), link=link), expected)
        self.assertGreater(left, 0)

    def test_a_page_that_cannot_be_sent_behind_the_sight(self):
        for link in LINKS[::3]:
            pages = sorted({page for _, page in told_sights(link)})
            for sight, page in itertools.product(told_sights(link), pages):
                if not fitting_states(link, sight, page):
                    value = [list(page[0]), page[1]]
                    self.refuses(Refused, page, heard_sight, link, sight, page)
                    self.refuses(Refused, value, heard_sight, link, sight, value)
        link = Link(WORN, 0, 2, 1)
        page = ((1, 1), 0)
        self.refuses(Refused, page, heard_sight, link, sight_of(link, (0, 0)), page)

    def test_errors_in_their_order(self):
        link = Link(WORN, 0, 1, 1)
        sight = sight_of(link, (0,))
        for value in NO_SEQUENCES + [[], (), ((), 0, 0)]:
            self.refuses(BadPage, -1, heard_sight, link, sight, value)
        self.refuses(BadPage, 0, heard_sight, link, sight, ((2,), 1))
        self.refuses(BadPage, 1, heard_sight, link, sight, ((1,), 1))
        self.refuses(BadPage, 1, heard_sight, link, sight=sight, page=[[], True])
        wrong = (0, ((0,), 0))
        self.refuses(Refused, wrong, heard_sight, link, wrong, ((2,), 1))
        self.refuses(Refused, wrong, heard_sight, link, wrong, ((), 0))
        earlier = ((), 0)
        self.refuses(Refused, earlier, heard_sight, link, sight, earlier)

    def test_no_losses_and_one_state(self):
        link = Link(WORN, 0, 0, 0)
        self.same(heard_sight(link, (2, ((), 0)), ((), 0)), (2, ((), 0)))
        self.same(heard_sight(Link(ONE, 0, 0, 8), (0, ((), 0)), ((), 0)), (0, ((), 0)))
        self.same(heard_sight(Link(LIFT, 0, 0, 1), (0, ((), 0)), ((), 0)), None)


if __name__ == "__main__":
    unittest.main()
