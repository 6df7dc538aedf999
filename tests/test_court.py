"""[13] to [15]: right links, the pairs of states left open, and the least length."""

import itertools
import unittest

from pagesagain.court import court_paper, is_right, least_length, open_pairs, runs_hold
from pagesagain.errors import NoState, Refused, TooGreat
from pagesagain.machines import Machine, led
from pagesagain.pages import Link, page_of, sight_of
from pagesagain.sights import heard_sight
from tests.helper import (GREAT, HOUR, LIFT, ONE, STAIRS, SWITCH, WORN, Case, bent, machines_of, no_numbers, rows_to,
                          told_open, told_page, told_sights)
from tests.test_sights import JUST

LINKS = [Link(machine, 0, length, loss, modulus)
         for machine in machines_of(2, 2) + machines_of(3, 1)[::3] + machines_of(3, 2)[4::91] + [WORN, STAIRS, HOUR]
         for length, loss, modulus in ((0, 1, 1), (0, 2, 2), (1, 1, 1), (1, 2, 1), (2, 1, 1), (2, 2, 1), (1, 3, 2),
                                       (3, 2, 3), (4, 2, 1))]


class RightLinks(Case):
    def test_by_all_sights_and_rows(self):
        right = 0
        for link in LINKS:
            pairs = told_open(link)
            right += not pairs
            self.same((is_right(link), open_pairs(link)), (not pairs, pairs))
            self.same((is_right(link=link), open_pairs(link=link)), (not pairs, pairs))
            self.assertEqual(court_paper(link) is None, not pairs)
        self.assertTrue(0 < right < len(LINKS))

    def test_other_first_states_and_moduli(self):
        for machine in (WORN, STAIRS, HOUR, LIFT, Machine([(1, 2, 3, 3), (0, 0, 0, 0)])):
            for first, length, modulus in itertools.product(range(machine.states), (0, 2), (1, 2, 4)):
                link = Link(machine, first, length, 2, modulus)
                self.same((is_right(link), open_pairs(link)), (not told_open(link), told_open(link)))

    def test_papers_hold(self):
        papers = 0
        for link in LINKS + [Link(LIFT, 3, 1, 4), Link(GREAT, 2, 1, 2), Link(SWITCH, 0, 12, 8, 7)]:
            paper = court_paper(link)
            if paper is not None:
                papers += 1
                self.shows(link, paper)
        self.assertGreater(papers, 50)

    def shows(self, link, paper):
        word, ahead, one, other = paper
        self.same(paper, ("runs", tuple(ahead), tuple(one), tuple(other)))
        self.assertEqual(word, "runs")
        self.assertTrue(len(ahead) <= 200 and len(one) <= link.loss and len(other) <= link.loss)
        self.assertEqual(told_page(link, ahead + one), told_page(link, ahead + other))
        self.assertNotEqual(led(link.machine, link.first, ahead + one), led(link.machine, link.first, ahead + other))
        self.same(runs_hold(link, paper), True)
        self.same(runs_hold(link, [word, list(ahead), list(one), list(other)]), True)
        self.same(runs_hold(link=link, value=(word, ahead, other, one)), True)

    def test_more_than_4000_sights(self):
        for many, link in JUST:
            for call in (is_right, court_paper, open_pairs):
                if many > 4000:
                    self.refuses(TooGreat, 4000, call, link)
                else:
                    call(link)
        paper = court_paper(JUST[1][1])
        self.shows(JUST[1][1], paper)
        for call in (is_right, court_paper, open_pairs):
            self.refuses(TooGreat, 4000, call, Link(GREAT, 0, 12, 8, 9))

    def test_the_greatest_losses(self):
        still = Machine([tuple(range(8))] * 2)
        self.same((is_right(Link(still, 0, 10, 8)), open_pairs(Link(still, 0, 10, 8))), (True, ()))
        four = Machine([tuple(range(8))] * 4)
        self.same((is_right(Link(four, 0, 5, 4)), court_paper(Link(four, 3, 4, 4, 9))), (True, None))
        turn = Link(SWITCH, 0, 12, 8)
        self.same((is_right(turn), open_pairs(turn)), (False, ((0, 1),)))

    def test_receivers_on_right_links_stand_where_the_sender_stood(self):
        for link in LINKS:
            if is_right(link) and link.machine.deeds == 2:
                for row in rows_to(2, 4):
                    self.hears_all(link, row)

    def hears_all(self, link, row):
        """With all ways to lose pages behind the deeds of a row."""
        for heard in itertools.product((False, True), repeat=len(row)):
            places = [0] + [at + 1 for at in range(len(row)) if heard[at]]
            if all(then - here <= link.loss for here, then in itertools.pairwise(places)):
                sight = sight_of(link, ())
                for place in places:
                    sight = heard_sight(link, sight, page_of(link, row[:place]))
                    self.assertEqual(sight, sight_of(link, row[:place]))


class RunsHold(Case):
    def test_all_short_runs(self):
        for link in (Link(STAIRS, 0, 1, 1), Link(WORN, 1, 1, 2, 2), Link(HOUR, 0, 2, 3), Link(SWITCH, 0, 0, 2)):
            deeds = link.machine.deeds
            met = 0
            for ahead, one, other in itertools.product(rows_to(deeds, 2), rows_to(deeds, 3), rows_to(deeds, 3)):
                states = [led(link.machine, link.first, ahead + row) for row in (one, other)]
                pages = [told_page(link, ahead + row) for row in (one, other)]
                holds = pages[0] == pages[1] and states[0] != states[1] and max(len(one), len(other)) <= link.loss
                met += holds
                self.same(runs_hold(link, ("runs", ahead, one, other)), holds)
            self.assertGreater(met, 0)

    def test_values_of_any_kind(self):
        link = Link(STAIRS, 0, 1, 1)
        paper = ("runs", (0,), (), (0,))
        self.same(runs_hold(link, paper), True)
        for value in bent(paper):
            self.same(runs_hold(link, value), False)

    def test_lengths_of_rows(self):
        link = Link(SWITCH, 0, 12, 8)
        self.same(runs_hold(link, ("runs", [0] * 400, [0] * 8, [0] * 7)), True)
        self.same(runs_hold(link, ("runs", [0] * 401, [0] * 8, [0] * 7)), False)
        self.same(runs_hold(link, ("runs", [0] * 400, [0] * 9, [0] * 8)), False)
        self.same(runs_hold(link, ("runs", [0] * 400, [0] * 6, [0] * 9)), False)

    def test_where_there_are_too_many_sights(self):
        link = Link(Machine([(1, 0), (1, 0)]), 0, 12, 1)
        self.refuses(TooGreat, 4000, is_right, link)
        self.same(runs_hold(link, ("runs", (0,) * 12, (), (0,))), True)
        self.same(runs_hold(link, ("runs", (0,) * 12, (), (1,))), False)

    def test_pages_with_numbers(self):
        link = Link(SWITCH, 0, 1, 3, 3)
        self.same(runs_hold(link, ("runs", (0,), (), (0, 0, 0))), True)
        self.same(runs_hold(link, ("runs", (0,), (), (0,))), False)
        # Behind no deed at all the page is shorter.
        self.same(runs_hold(link, ("runs", (), (), (0, 0, 0))), False)


class LeastLength(Case):
    def least(self, machine, first, loss, modulus):
        """By trying lengths one by one: (the least length, the length whose sights count)."""
        greatest = (machine.states - 1) * loss
        for length in range(greatest + 1):
            if not told_open(Link(machine, first, length, loss, modulus)):
                return length, length
        return None, greatest

    def compare(self, machine, first, loss, modulus):
        expected, length = self.least(machine, first, loss, modulus)
        sights = len(told_sights(Link(machine, first, length, loss, modulus)))
        self.same(least_length(machine, first, loss, modulus), expected)
        self.same(least_length(machine=machine, first=first, loss=loss, modulus=modulus, most=20000), expected)
        for most in (1, 2, sights - 1, sights, sights + 1):
            if most > 0:
                self.searched(expected, sights, most, least_length, machine, first, loss, modulus)
        return expected

    def test_machines_of_one_deed(self):
        met = {self.compare(machine, 0, loss, modulus) for machine in machines_of(3, 1)
               for loss, modulus in ((0, 1), (1, 1), (2, 1), (3, 1), (4, 1), (1, 2), (2, 2), (4, 2), (3, 3), (2, 4))}
        self.assertEqual(met, {None, 0, 1, 2})

    def test_machines_of_two_deeds(self):
        machines = machines_of(2, 2) + machines_of(3, 2)[1::37] + [WORN, STAIRS]
        met = {self.compare(machine, first, loss, modulus) for machine in machines for first in (0, 1)
               for loss, modulus in ((1, 1), (2, 1), (2, 2), (3, 1), (3, 2), (3, 4))}
        self.assertEqual(met, {None, 0, 1, 2, 3, 4, 5, 6})

    def test_machines_of_more_deeds(self):
        for machine in (Machine([(1, 0), (0, 0), (1, 1)]), Machine([(0, 0), (1, 1), (0, 1)]), GREAT):
            loss = 3 if machine.states == 2 else 1
            self.searched(*self.counted(machine, loss), 4000, least_length, machine, 0, loss)

    def counted(self, machine, loss):
        if machine is GREAT:
            # The second deed turns a ring of eight states, so no length is right; there are rows of seven deeds.
            return None, 4 ** 7
        expected, length = self.least(machine, 0, loss, 1)
        return expected, len(told_sights(Link(machine, 0, length, loss)))

    def test_lengths_above_twelve(self):
        # A stair upon which one can stay needs pages of all its steps times the losses.
        for states, loss in ((3, 8), (4, 8), (7, 4), (8, 3)):
            stair = Machine([tuple(range(1, states)) + (states - 1,), tuple(range(states))])
            least = (states - 1) * loss
            self.searched(least, 2 ** least, 20000, least_length, stair, 0, loss)
        stair = Machine([(1, 2, 3, 4, 5, 6, 7, 7)])
        self.same([least_length(stair, 0, loss) for loss in range(4)], [0, 7, 7, 7])

    def test_one_state_and_no_losses(self):
        self.same([least_length(ONE, 0, loss, modulus) for loss in (0, 8) for modulus in (1, 9)], [0, 0, 0, 0])
        self.same([least_length(machine, 0, 0) for machine in (SWITCH, HOUR, GREAT, WORN)], [0, 0, 0, 0])
        self.same([least_length(machine, 0, 0, most=1) for machine in (SWITCH, GREAT)], [0, 0])

    def test_numbers(self):
        self.same([least_length(SWITCH, 0, 1, modulus) for modulus in range(1, 10)], [None] + [0] * 8)
        self.same([least_length(HOUR, 0, 3, modulus) for modulus in range(1, 10)], [None, None, 0] + [0] * 6)

    def test_greater_lengths_are_right_too(self):
        for link in LINKS:
            least = least_length(link.machine, 0, link.loss, link.modulus)
            self.same(is_right(link), least is not None and link.length >= least)

    def test_wrong_arguments(self):
        for value in no_numbers(0, 2):
            self.refuses(NoState, value, least_length, WORN, value, 9, 0)
        for value in no_numbers(0, 8):
            self.refuses(Refused, value, least_length, WORN, 0, value, 0)
            self.refuses(Refused, value, least_length, machine=WORN, first=0, loss=value, modulus=10, most=1)
        for value in no_numbers(1, 9):
            self.refuses(Refused, value, least_length, WORN, 2, 8, value)
        self.assertRaises(TypeError, least_length, WORN, 0, 1, 1, 4000)

    def test_errors_ahead_of_the_search(self):
        self.refuses(NoState, 8, least_length, GREAT, 8, 8, most=1)
        self.refuses(Refused, 10, least_length, GREAT, 0, 8, 10, most=1)


if __name__ == "__main__":
    unittest.main()
