"""[30], [31]: colours of states, papers of colours, and whoever hears pages and colours."""

import itertools
import unittest

from pagesagain.court import court_paper, is_right, open_pairs
from pagesagain.digests import (colour_holds, colour_paper, colour_state, far_colouring, far_pairs, first_colouring,
                                least_colours, number_colours)
from pagesagain.errors import BadPage, NoState, Refused, TooGreat
from pagesagain.machines import Machine, led
from pagesagain.pages import Link, page_of, sight_of
from pagesagain.windows import least_window
from tests.helper import (ANY, GREAT, HOUR, LIFT, NO_INTEGERS, NO_SEQUENCES, ONE, STAIRS, SWITCH, WORN, Case, bent,
                          machines_of, no_numbers, rows_to, told_colouring, told_open, told_open_by_number, told_page,
                          told_sights)
from tests.test_court import LINKS
from tests.test_sights import JUST
from tests.test_windows import LATE, MACHINES, RING, is_window, left_open

TURNS = [Link(Machine([(1, 2, 3, 4, 0), (2, 3, 4, 0, 1)]), 0, length, loss, modulus)
         for length, loss, modulus in ((0, 1, 1), (0, 2, 1), (1, 2, 2), (2, 2, 1), (1, 3, 3))]
SOME = LINKS[::4] + TURNS + [Link(LIFT, 0, 2, 2), Link(LIFT, 3, 1, 3, 2), Link(HOUR, 1, 0, 4, 3), Link(ONE, 0, 2, 2)]


def no_colours(states):
    """Values that are no sequence of a number below 8 for each of so many states, two or more."""
    last = [0] * (states - 1)
    return NO_SEQUENCES + [(), [], last, [0] * (states + 1)] + [
        change for value in NO_INTEGERS + [8, -1, 10 ** 30] for change in (last + [value], (value,) + tuple(last))]


class Colours(Case):
    def test_all_tuples_in_their_order(self):
        met = set()
        for link in SOME:
            expected = told_colouring(link.machine.states, told_open(link))
            met.add(max(expected) + 1)
            self.same((first_colouring(link), least_colours(link)), (expected, max(expected) + 1))
            self.same((first_colouring(link=link), least_colours(link=link)), (expected, max(expected) + 1))
        self.assertLessEqual({1, 2, 3}, met)

    def test_one_colour_just_where_the_link_is_right(self):
        for link in LINKS:
            self.assertEqual(least_colours(link) == 1, is_right(link))
            self.assertEqual(first_colouring(link) == (0,) * link.machine.states, is_right(link))

    def test_by_number(self):
        unlike = 0
        for link in SOME:
            expected = tuple(told_colouring(link.machine.states, pairs) for pairs in told_open_by_number(link))
            unlike += len(set(expected)) > 1
            self.same(number_colours(link), expected)
            self.same(number_colours(link=link), expected)
            if link.modulus == 1:
                self.same(number_colours(link), (first_colouring(link),))
        self.assertGreater(unlike, 0)

    def test_states_that_do_not_come(self):
        # Only the last two states come, and no page tells them apart.
        link = Link(Machine([(0, 1, 3, 2)]), 2, 5, 1)
        self.same((first_colouring(link), least_colours(link)), ((0, 0, 0, 1), 2))
        self.same(number_colours(link), ((0, 0, 0, 1),))

    def test_all_states_unlike(self):
        turn = Machine([(1, 2, 3, 4, 5, 6, 7, 0)])
        self.same(first_colouring(Link(turn, 0, 12, 8)), (0, 1, 2, 3, 4, 5, 6, 7))
        self.same(first_colouring(Link(turn, 0, 12, 6)), (0, 1, 2, 3, 4, 5, 6, 7))
        self.same(first_colouring(Link(turn, 0, 12, 3)), (0, 1, 2, 3, 0, 1, 2, 3))
        self.same(first_colouring(Link(turn, 5, 12, 4, 4)), (0, 0, 0, 0, 1, 1, 1, 1))
        self.same(least_colours(Link(turn, 0, 12, 7, 8)), 1)

    def test_more_than_4000_sights(self):
        for many, link in JUST:
            for call in (least_colours, first_colouring, number_colours):
                if many > 4000:
                    self.refuses(TooGreat, 4000, call, link)
                else:
                    call(link)
        for call in (least_colours, first_colouring, number_colours):
            self.refuses(TooGreat, 4000, call, link=Link(GREAT, 0, 12, 8, 9))


class FarColours(Case):
    def test_by_lots_led_on(self):
        met = set()
        for machine in MACHINES + [RING, LATE, TURNS[0].machine]:
            for first, length, modulus in itertools.product((0, machine.states - 1), (0, 1, 2, 4), (1, 2, 3)):
                lots = left_open(machine, first, length, modulus).values()
                pairs = {pair for lot in lots for pair in itertools.combinations(sorted(lot), 2)}
                self.same(far_pairs(machine, first, length, modulus), tuple(sorted(pairs)))
                self.same(far_pairs(machine=machine, first=first, length=length, modulus=modulus),
                          tuple(sorted(pairs)))
                colours = far_colouring(machine, first, length, modulus)
                self.same(far_colouring(machine=machine, first=first, length=length, modulus=modulus), colours)
                met.add(max(colours))
                self.assertEqual(max(colours) == 0, is_window(machine, first, length, modulus))
                if machine.states < 6:
                    self.same(colours, told_colouring(machine.states, pairs))
        self.assertLessEqual({0, 1, 2, 3, 4, 7}, met)

    def test_no_modulus_is_one(self):
        for machine in MACHINES:
            self.same((far_pairs(machine, 0, 1), far_colouring(machine, 0, 1)),
                      (far_pairs(machine, 0, 1, 1), far_colouring(machine, 0, 1, 1)))

    def test_windows_and_longest_pages(self):
        for machine in MACHINES + [GREAT, RING, LATE]:
            least = least_window(machine, 0)
            for length in (0, 3, 12):
                pairs, colours = far_pairs(machine, 0, length), far_colouring(machine, 0, length)
                self.assertEqual(pairs == (), least is not None and least <= length)
                self.assertEqual(max(colours) == 0, pairs == ())
        self.same(far_colouring(RING, 0, 12, 4), (0, 0, 0, 0, 1, 1, 1, 1))
        self.same(far_colouring(RING, 0, 12), (0, 1, 2, 3, 4, 5, 6, 7))

    def test_without_a_link_nothing_is_too_great(self):
        self.same(far_pairs(GREAT, 0, 12, 9), tuple(itertools.combinations(range(8), 2)))

    def test_wrong_arguments(self):
        for call in (far_pairs, far_colouring):
            for value in no_numbers(0, 2):
                self.refuses(NoState, value, call, WORN, value, 13, 0)
            for value in no_numbers(0, 12):
                self.refuses(Refused, value, call, WORN, 0, value, 0)
            for value in no_numbers(1, 9):
                self.refuses(Refused, value, call, WORN, 0, 12, value)
                self.refuses(Refused, value, call, machine=WORN, first=0, length=12, modulus=value)


class ColourPapers(Case):
    def shows(self, link, colours, paper):
        word, ahead, one, other = paper
        self.same(paper, ("pages", tuple(ahead), tuple(one), tuple(other)))
        self.assertEqual(word, "pages")
        self.assertTrue(len(ahead) <= 200 and len(one) <= link.loss and len(other) <= link.loss)
        self.assertEqual(told_page(link, ahead + one), told_page(link, ahead + other))
        states = [led(link.machine, link.first, ahead + row) for row in (one, other)]
        self.assertNotEqual(*states)
        self.assertEqual(colours[states[0]], colours[states[1]])
        self.same(colour_holds(link, colours, paper), True)
        self.same(colour_holds(link=link, colours=list(colours), value=[word, list(ahead), list(other), list(one)]),
                  True)

    def test_told_just_where_they_do_not_tell_the_state(self):
        papers = tellings = 0
        for link in SOME:
            pairs = told_open(link)
            for colours in itertools.product((0, 3, 7), repeat=link.machine.states):
                paper = colour_paper(link, colours)
                self.same(colour_paper(link=link, colours=list(colours)), paper)
                self.assertEqual(paper is None, all(colours[one] != colours[other] for one, other in pairs))
                if paper is None:
                    tellings += 1
                else:
                    papers += 1
                    self.shows(link, colours, paper)
        self.assertGreater(min(papers, tellings), 100)

    def test_first_colourings_are_enough(self):
        for link in LINKS:
            self.same(colour_paper(link, first_colouring(link)), None)
            paper = colour_paper(link, [5] * link.machine.states)
            self.assertEqual(paper is None, court_paper(link) is None)

    def test_long_rows_ahead(self):
        link = Link(LATE, 0, 12, 1)
        paper = colour_paper(Link(LATE, 0, 6, 1), (0,) * 8)
        self.shows(Link(LATE, 0, 6, 1), (0,) * 8, paper)
        self.assertEqual(len(paper[1]), 6)
        self.same(colour_paper(link, (0,) * 8), None)

    def test_more_than_4000_sights(self):
        for many, link in JUST:
            colours = (1,) * link.machine.states
            if many > 4000:
                self.refuses(TooGreat, 4000, colour_paper, link, colours)
            else:
                self.shows(link, colours, colour_paper(link, colours))

    def test_wrong_colours_ahead_of_all_else(self):
        for link in (Link(STAIRS, 0, 1, 1), Link(GREAT, 0, 12, 8, 9), Link(SWITCH, 0, 1, 1)):
            for value in no_colours(link.machine.states):
                self.refuses(Refused, value, colour_paper, link, value)
                self.refuses(Refused, value, colour_holds, link, value, None)
                self.refuses(Refused, value, colour_state, link, value, None, None, None)
                self.refuses(Refused, value, colour_holds, link=link, colours=value, value=())


class ColourHolds(Case):
    def test_all_short_rows(self):
        for link, colours in ((Link(STAIRS, 0, 1, 1), (0, 1, 1)), (Link(WORN, 1, 1, 2, 2), (2, 2, 0)),
                              (Link(HOUR, 0, 2, 3), (7, 0, 7)), (Link(SWITCH, 0, 0, 2), (0, 0))):
            deeds = link.machine.deeds
            met = 0
            for ahead, one, other in itertools.product(rows_to(deeds, 2), rows_to(deeds, 3), rows_to(deeds, 3)):
                states = [led(link.machine, link.first, ahead + row) for row in (one, other)]
                pages = [told_page(link, ahead + row) for row in (one, other)]
                holds = (pages[0] == pages[1] and states[0] != states[1] and max(len(one), len(other)) <= link.loss
                         and colours[states[0]] == colours[states[1]])
                met += holds
                self.same(colour_holds(link, colours, ("pages", ahead, one, other)), holds)
            self.assertGreater(met, 0)

    def test_values_of_any_kind(self):
        link = Link(STAIRS, 0, 1, 1)
        paper = ("pages", (0,), (), (0,))
        self.same(colour_holds(link, (0, 1, 1), paper), True)
        for value in bent(paper):
            self.same(colour_holds(link, (0, 1, 1), value), False)
        self.same(colour_holds(link, (0, 1, 2), paper), False)

    def test_lengths_of_rows_with_the_row_ahead(self):
        link = Link(SWITCH, 0, 12, 8)
        for ahead, one, other in ((392, 8, 7), (393, 7, 6), (393, 6, 7), (400, 0, 0)):
            holds = one != other
            self.same(colour_holds(link, (4, 4), ("pages", [0] * ahead, [0] * one, [0] * other)), holds)
        for ahead, one, other in ((393, 8, 7), (393, 7, 8), (400, 0, 1), (400, 1, 0), (401, 0, 1), (1000, 2, 1),
                                  (20, 9, 8), (20, 8, 9), (20, 1000, 1)):
            self.same(colour_holds(link, (4, 4), ("pages", [0] * ahead, [0] * one, [0] * other)), False)

    def test_where_there_are_too_many_sights(self):
        link = Link(Machine([(1, 0), (1, 0)]), 0, 12, 1)
        self.refuses(TooGreat, 4000, colour_paper, link, (0, 0))
        self.same(colour_holds(link, (0, 0), ("pages", (0,) * 12, (), (0,))), True)
        self.same(colour_holds(link, (0, 1), ("pages", (0,) * 12, (), (0,))), False)


class ColourState(Case):
    def test_against_the_states_left_open(self):
        told = 0
        for link in SOME[::2] + TURNS:
            states = link.machine.states
            tuples = {(0,) * states, tuple(range(states)), first_colouring(link), tuple(at % 2 for at in range(states))}
            for (sight, history), colours in itertools.product(list(told_sights(link).items())[:40], sorted(tuples)):
                left = {}
                for row in rows_to(link.machine.deeds, link.loss):
                    left.setdefault(told_page(link, history + row), set()).add(led(link.machine, sight[0], row))
                for page, those in left.items():
                    told += len(those) > 1
                    self.by_colours(link, colours, sight, page, those)
        self.assertGreater(told, 100)

    def by_colours(self, link, colours, sight, page, left):
        for colour in range(9):
            those = [state for state in left if colours[state] == colour]
            if len(those) == 1:
                self.same(colour_state(link, colours, sight, page, colour), those[0])
                self.same(colour_state(link=link, colours=list(colours), sight=list(sight),
                                       page=[list(page[0]), page[1]], colour=colour), those[0])
            else:
                self.refuses(Refused, colour, colour_state, link, colours, sight, page, colour)

    def test_a_first_colouring_always_tells(self):
        for link in SOME:
            colours = first_colouring(link)
            for sight, history in list(told_sights(link).items())[::3]:
                for row in rows_to(link.machine.deeds, link.loss):
                    state = led(link.machine, sight[0], row)
                    self.same(colour_state(link, colours, sight, page_of(link, history + row), colours[state]), state)

    def test_errors_in_their_order(self):
        link, colours = Link(STAIRS, 0, 1, 1), (0, 1, 1)
        sight, page = sight_of(link, (0,)), ((0,), 0)
        for value in ANY + [(), (0, ((0,), 0), 0), (True, ((0,), 0)), (3, ((0,), 0)), (0, ((1, 1), 0))]:
            self.refuses(Refused, value, colour_state, link, colours, value, "no page", -1)
        for value in NO_SEQUENCES + [(), ((), 0, 0)]:
            self.refuses(BadPage, -1, colour_state, link, colours, sight, value, -1)
        for value in NO_SEQUENCES + [(2,), (0, 0), (True,)]:
            self.refuses(BadPage, 0, colour_state, link, colours, sight, (value, 0), -1)
        for value in no_numbers(0, 0):
            self.refuses(BadPage, 1, colour_state, link, colours, sight, ((0,), value), -1)
        gone = [[], 0]
        self.refuses(Refused, gone, colour_state, link, colours, sight, gone, -1)
        for value in ANY + [-1, 2, 10 ** 30]:
            # Behind this sight the page (0) leaves the states 1 and 2 open, of one colour both.
            self.refuses(Refused, value, colour_state, link, colours, sight, page, value)
        for value in ANY:
            if value not in (0, 1) or type(value) is bool:
                self.refuses(Refused, value, colour_state, link, (0, 0, 1), sight, page, value)
        self.same([colour_state(link, (0, 0, 1), sight, page, colour) for colour in (0, 1)], [1, 2])

    def test_more_than_4000_sights_do_not_matter(self):
        link = Link(GREAT, 0, 12, 8, 9)
        ahead = (1,) * 40
        self.same(colour_state(link, (0,) * 8, sight_of(link, ahead), page_of(link, ahead + (2,)), 0), 0)


class OpenPairs(Case):
    def test_enough_just_if_no_pair_has_one_colour(self):
        for link in LINKS:
            colours = first_colouring(link)
            self.assertTrue(all(colours[one] != colours[other] for one, other in open_pairs(link)))


if __name__ == "__main__":
    unittest.main()
