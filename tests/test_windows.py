"""[26] to [29]: windows, papers of windows, and pages that tell the state alone."""

import itertools
import unittest

from pagesagain.court import least_length
from pagesagain.errors import BadPage, NoState, Refused
from pagesagain.machines import Machine, led
from pagesagain.pages import Link, sent_states
from pagesagain.windows import (first_telling, least_window, like_pairs, telling_pages, told_states, window_holds,
                                window_paper)
from tests.helper import (GREAT, HOUR, LIFT, NO_SEQUENCES, ONE, STAIRS, SWITCH, WORN, Case, bent, machines_of,
                          no_numbers, rows_of, rows_to, told_page)

RING = Machine([(1, 2, 3, 4, 5, 6, 7, 0)])
CELL = Machine([(0, 0), (1, 1)])
LATE = Machine([(1, 2, 3, 4, 5, 6, 7, 7)])
# The state is the last deeds but one; or the last three.
LAST = Machine([(0, 2, 0, 2), (1, 3, 1, 3)])
THREE = Machine([(0, 2, 4, 6, 0, 2, 4, 6), (1, 3, 5, 7, 1, 3, 5, 7)])
MACHINES = (machines_of(2, 2)[::2] + machines_of(3, 1)[::2] + machines_of(3, 2)[7::61]
            + [WORN, STAIRS, SWITCH, HOUR, LIFT, CELL, LAST, ONE])


def lots_ahead(machine, first, modulus):
    """By number of deeds, modulo, the states to which rows lead the first one: deed by deed, until nothing is new."""
    lots = [set() for _ in range(modulus)]
    here = {first}
    for many in range(modulus * 2 ** machine.states):
        if here <= lots[many % modulus] and many > modulus * machine.states * 2:
            break
        lots[many % modulus] |= here
        here = {table[state] for table in machine.tables for state in here}
    return lots


def left_open(machine, first, length, modulus):
    """By page with so many deeds, the states behind all rows that leave it."""
    lots = lots_ahead(machine, first, modulus)
    return {(row, number): {led(machine, state, row) for state in lots[(number - length) % modulus]}
            for row in rows_of(machine.deeds, length) for number in range(modulus)}


def is_window(machine, first, length, modulus):
    return all(len(states) == 1 for states in left_open(machine, first, length, modulus).values())


class LikePairs(Case):
    def test_by_lots(self):
        for machine in MACHINES + [GREAT, RING, LATE]:
            for first, modulus in itertools.product(range(machine.states), (1, 2, 3, 9)):
                expected = sorted({pair for lot in lots_ahead(machine, first, modulus)
                                   for pair in itertools.combinations(sorted(lot), 2)})
                self.same(like_pairs(machine, first, modulus), tuple(expected))
                self.same(like_pairs(machine=machine, first=first, modulus=modulus), tuple(expected))

    def test_some(self):
        self.same((like_pairs(SWITCH, 0), like_pairs(SWITCH, 0, 2), like_pairs(RING, 3, 4)),
                  (((0, 1),), (), ((0, 4), (1, 5), (2, 6), (3, 7))))
        self.same((like_pairs(ONE, 0, 9), like_pairs(LATE, 6), like_pairs(LATE, 7)), ((), ((6, 7),), ()))


class LeastWindow(Case):
    def test_by_lots(self):
        met = set()
        for machine in MACHINES:
            for first, modulus in itertools.product((0, machine.states - 1), (1, 2, 3)):
                least = least_window(machine, first, modulus)
                met.add(least)
                self.same(least_window(machine=machine, first=first, modulus=modulus), least)
                for length in range(6):
                    # Longer lengths than a window are windows, too.
                    self.assertEqual(is_window(machine, first, length, modulus), least is not None and length >= least)
        self.assertLessEqual({None, 0, 1, 2}, met)

    def test_greater_ones(self):
        self.same([least_window(LATE, first) for first in range(8)], [7, 6, 5, 4, 3, 2, 1, 0])
        self.same([least_window(THREE, 0), least_window(LAST, 3), least_window(LIFT, 0), least_window(GREAT, 0)],
                  [3, 2, None, None])
        self.same([least_window(RING, 0, modulus) for modulus in range(1, 10)], [None] * 7 + [0, None])
        self.same(least_window(ONE, 0, 9), 0)

    def test_windows_of_two_deeds(self):
        machines = [machine for machine in machines_of(3, 2) if least_window(machine, 0) == 2]
        self.assertGreater(len(machines), 10)
        for machine in machines:
            self.assertTrue(is_window(machine, 0, 2, 1) and not is_window(machine, 0, 1, 1))

    def test_no_bound_on_losses(self):
        # A window is a right length for each loss.
        for machine in MACHINES:
            least = least_window(machine, 0)
            for loss in range(4):
                if least is not None:
                    self.assertLessEqual(least_length(machine, 0, loss), least)

    def test_wrong_arguments(self):
        for call in (like_pairs, least_window, first_telling):
            for value in no_numbers(0, 2):
                self.refuses(NoState, value, call, WORN, value, 0)
            for value in no_numbers(1, 9):
                self.refuses(Refused, value, call, WORN, 0, value)
                self.refuses(Refused, value, call, machine=WORN, first=0, modulus=value)
        for call, rest in ((window_paper, (0,)), (window_holds, (0, None)), (telling_pages, (0,)),
                           (told_states, (0, 0))):
            for value in no_numbers(0, 2):
                self.refuses(NoState, value, call, WORN, value, 13, *rest)
            for value in no_numbers(0, 12):
                self.refuses(Refused, value, call, WORN, 0, value, *rest)
        for value in no_numbers(1, 9):
            self.refuses(Refused, value, window_paper, machine=WORN, first=0, length=12, modulus=value)
            self.refuses(Refused, value, window_holds, machine=WORN, first=0, length=12, modulus=value, value=None)
            self.refuses(Refused, value, telling_pages, machine=WORN, first=0, length=12, modulus=value)
            self.refuses(Refused, value, told_states, machine=WORN, first=0, length=12, page=0, modulus=value)


class NoModulus(Case):
    def test_it_is_one_if_it_is_not_told(self):
        for machine in MACHINES:
            for call in (like_pairs, least_window, first_telling):
                self.same(call(machine, 0), call(machine, 0, 1))
            for length in (0, 1, 3):
                self.same(window_paper(machine, 0, length), window_paper(machine, 0, length, 1))
                self.same(telling_pages(machine, 0, length), telling_pages(machine, 0, length, 1))
                page = ((0,) * length, 0)
                self.same(told_states(machine, 0, length, page), told_states(machine, 0, length, page, 1))


class Papers(Case):
    def shows(self, machine, first, length, modulus, paper):
        word, one, other = paper[:3]
        self.same(paper, (word,) + tuple(tuple(row) for row in paper[1:]))
        self.assertTrue(max(len(row) for row in paper[1:]) <= 400)
        self.assertEqual((len(one) - len(other)) % modulus, 0)
        states = [led(machine, first, one), led(machine, first, other)]
        self.assertNotEqual(states[0], states[1])
        if least_window(machine, first, modulus) is None:
            self.assertEqual((word, len(paper)), ("round", 4))
            self.assertGreater(len(paper[3]), 0)
            self.assertEqual([led(machine, state, paper[3]) for state in states], states)
        else:
            self.assertEqual((word, len(paper)), ("rows", 3))
            self.assertTrue(min(len(one), len(other)) >= length)
            self.assertEqual(one[len(one) - length:], other[len(other) - length:])
        self.same(window_holds(machine, first, length, modulus, paper), True)
        self.same(window_holds(machine=machine, first=first, length=length, modulus=modulus,
                               value=[word] + [list(row) for row in paper[1:]]), True)

    def test_each_kind(self):
        words = []
        for machine in MACHINES + [GREAT, RING, LATE, THREE]:
            for first, length, modulus in itertools.product((0, machine.states - 1), (0, 1, 2, 5, 12), (1, 2, 8, 9)):
                least = least_window(machine, first, modulus)
                paper = window_paper(machine, first, length, modulus)
                self.same(window_paper(machine=machine, first=first, length=length, modulus=modulus), paper)
                self.assertEqual(paper is None, least is not None and length >= least)
                if paper is not None:
                    words.append(paper[0])
                    self.shows(machine, first, length, modulus, paper)
        self.assertGreater(min(words.count("rows"), words.count("round")), 20)


class Holds(Case):
    def test_all_short_rows(self):
        met = 0
        for machine in (LAST, STAIRS, LIFT, HOUR):
            for one, other in itertools.product(rows_to(machine.deeds, 4), repeat=2):
                for length, modulus in ((0, 1), (1, 1), (2, 1), (1, 2), (0, 3)):
                    link = Link(machine, 0, length, 0, modulus)
                    holds = (min(len(one), len(other)) >= length and told_page(link, one) == told_page(link, other)
                             and led(machine, 0, one) != led(machine, 0, other))
                    met += holds
                    self.same(window_holds(machine, 0, length, modulus, ("rows", one, other)), holds)
        self.assertGreater(met, 100)

    def test_all_short_rounds(self):
        met = 0
        for machine in (STAIRS, LIFT, HOUR):
            short = rows_to(machine.deeds, 2 if machine.deeds == 2 else 4)
            for one, other, again in itertools.product(short, short, rows_to(machine.deeds, 3)):
                states = [led(machine, 0, one), led(machine, 0, other)]
                for length, modulus in ((0, 1), (12, 1), (3, 2)):
                    holds = (states[0] != states[1] and len(again) > 0 and (len(one) - len(other)) % modulus == 0
                             and [led(machine, state, again) for state in states] == states)
                    met += holds
                    self.same(window_holds(machine, 0, length, modulus, ("round", one, other, again)), holds)
        self.assertGreater(met, 100)

    def test_whichever_word_would_be_told(self):
        self.same(least_window(LIFT, 0), None)
        self.same(window_holds(LIFT, 0, 1, 1, ("rows", (1, 1), (1,))), True)
        self.same(window_holds(LIFT, 0, 9, 1, ("round", (), (1,), (1, 0))), True)
        # A machine with windows has no round.
        for again in rows_to(2, 6):
            self.same(window_holds(LAST, 0, 0, 1, ("round", (), (1,), again)), False)

    def test_values_of_any_kind(self):
        for paper in (("rows", (1, 1), (1,)), ("round", (), (1,), (1, 0))):
            self.same(window_holds(LIFT, 0, 1, 1, paper), True)
            for value in bent(paper):
                self.same(window_holds(LIFT, 0, 1, 1, value), False)
        self.same(window_holds(LIFT, 0, 1, 1, ("round", (1, 1), (1,))), False)
        self.same(window_holds(LIFT, 0, 1, 1, ("rows", (), (1,), (1, 0))), False)

    def test_lengths_of_rows(self):
        for many in (400, 401, 1000):
            long, half = [0] * many, (0, 0)
            self.same(window_holds(SWITCH, 0, 12, 1, ("rows", long, [0] * 399)), many == 400)
            self.same(window_holds(SWITCH, 0, 12, 1, ("rows", [0] * 399, long)), many == 400)
            self.same(window_holds(SWITCH, 0, 12, 1, ("round", long, [0] * 399, half)), many == 400)
            self.same(window_holds(SWITCH, 0, 12, 1, ("round", [0] * 399, long, half)), many == 400)
            self.same(window_holds(SWITCH, 0, 12, 1, ("round", [], [0], [0] * many)), many == 400)
        self.same(window_holds(SWITCH, 0, 3, 1, ("rows", (0,) * 3, (0,) * 2)), False)
        self.same(window_holds(SWITCH, 0, 3, 1, ("rows", (0,) * 3, (0,) * 4)), True)


class OnePage(Case):
    def test_told_states(self):
        for machine in MACHINES:
            for first, length, modulus in itertools.product((0, machine.states - 1), (0, 1, 3), (1, 2, 4)):
                for page, states in left_open(machine, first, length, modulus).items():
                    self.same(told_states(machine, first, length, page, modulus), tuple(sorted(states)))
                    link = Link(machine, first, length, 8, modulus)
                    self.same(sent_states(link, page), tuple(sorted(states)))
                for row in rows_to(machine.deeds, length - 1):
                    page = [list(row), len(row) % modulus]
                    told = told_states(machine=machine, first=first, length=length, page=page, modulus=modulus)
                    self.same(told, (led(machine, first, row),))

    def test_wrong_pages(self):
        for value in NO_SEQUENCES + [[], [()], ((), 0, 0)]:
            self.refuses(BadPage, -1, told_states, WORN, 0, 2, value)
        for value in NO_SEQUENCES + [[()], [0, 2], (0, 0, 0)]:
            self.refuses(BadPage, 0, told_states, WORN, 0, 2, (value, 0), 2)
        self.refuses(BadPage, 0, told_states, WORN, 0, 2, ((0, 0, 0), 0))
        self.refuses(BadPage, 1, told_states, WORN, 0, 2, ((0, 0), 2), 2)
        self.refuses(BadPage, 1, told_states, WORN, 0, 2, page=((0,), 0), modulus=2)
        # The page is looked at last, though its argument stands ahead of the modulus.
        self.refuses(Refused, 0, told_states, WORN, 0, 2, "no page", 0)

    def test_how_many_pages_tell(self):
        for machine in MACHINES + [RING]:
            for first, length, modulus in itertools.product((0, machine.states - 1), (0, 1, 2, 4), (1, 2, 3, 9)):
                sizes = [len(states) for states in left_open(machine, first, length, modulus).values()]
                expected = (sizes.count(1), len(sizes))
                self.same(telling_pages(machine, first, length, modulus), expected)
                self.same(telling_pages(machine=machine, first=first, length=length, modulus=modulus), expected)

    def test_many_pages(self):
        self.same(telling_pages(THREE, 0, 12), (4096, 4096))
        self.same(telling_pages(GREAT, 0, 12, 9), (9 * (4 ** 12 - 2 ** 12), 9 * 4 ** 12))
        self.same(telling_pages(LATE, 0, 12, 9), (9, 9))

    def test_the_first_page_that_tells(self):
        met = 0
        for machine in MACHINES + [RING, LATE, THREE]:
            for first, modulus in itertools.product((0, machine.states - 1), (1, 2, 3, 8)):
                longest = 8 if machine.deeds == 1 else 5
                pages = [page for length in range(longest)
                         for page, states in sorted(left_open(machine, first, length, modulus).items())
                         if len(states) == 1]
                told = first_telling(machine, first, modulus)
                self.same(first_telling(machine=machine, first=first, modulus=modulus), told)
                if pages:
                    met += 1
                    self.same(told, pages[0])
                else:
                    self.assertTrue(told is None or len(told[0]) >= longest)
        self.assertGreater(met, 50)

    def test_first_pages_that_are_long_or_none(self):
        self.same((first_telling(SWITCH, 0), first_telling(SWITCH, 0, 2), first_telling(LATE, 0)),
                  (None, ((), 0), ((0,) * 7, 0)))
        # Of an automaton of this kind the shortest row that leads all states to one has (8 - 1) * (8 - 1) deeds.
        deeds, number = first_telling(Machine([RING.tables[0], (1,) + tuple(range(1, 8))]), 0)
        self.assertEqual((len(deeds), number), (49, 0))


if __name__ == "__main__":
    unittest.main()
