"""The document's own examples, and those of README.md."""

import doctest
import os
import unittest

from pagesagain.counting import counting_holds, counting_moduli, fewest_turning
from pagesagain.court import court_paper, is_right, least_length, open_pairs, runs_hold
from pagesagain.lengths import least_from, length_paper, rounds_of
from pagesagain.machines import Machine, led, reached
from pagesagain.pages import Link, fitting, fitting_states, page_of, sent_states, sight_of
from pagesagain.repeats import harm_holds, harm_of
from pagesagain.rows import repeat_end, repeat_steps
from pagesagain.sights import heard_sight, sight_row, sights_of
from pagesagain.texts import link_text, page_text
from pagesagain.turning import (good_moduli, least_modulus, turn_holds, turn_of, turn_paper, turned_rows,
                                turning_lengths)
from pagesagain.windows import first_telling, least_window, like_pairs, telling_pages, told_states, window_holds
from tests.helper import Case

README = os.path.join(os.path.dirname(os.path.dirname(os.path.abspath(__file__))), "README.md")


class Chapter1(Case):
    def test_stair_and_switch(self):
        stair, switch = Machine([(1, 2, 2)]), Machine([(1, 0)])
        self.same((least_length(stair, 0, 1), least_length(switch, 0, 1), least_length(switch, 0, 1, 2)), (2, None, 0))


class Chapter3(Case):
    def test_machines_and_rows(self):
        worn = Machine([(1, 2, 2), (0, 0, 1)])
        self.same((led(worn, 0, (0, 0, 1)), reached(worn, 2), repeat_end(worn, (1, 0, 1, 0, 0, 1, 0), 3),
                   repeat_steps(worn, (0, 1, 0, 1, 0))), (1, (0, 1, 2), 6, (2, 4)))

    def test_pages(self):
        link = Link(Machine([(1, 2, 2), (0, 0, 1)]), 0, 2, 3)
        self.same((page_of(link, (0, 1, 1)), sight_of(link, (0, 0)), sent_states(link, ((0, 1), 0))),
                  (((1, 1), 0), (2, ((0, 0), 0)), (0, 1)))
        sight = (2, ((0, 0), 0))
        self.same((fitting(link, sight, ((0, 0), 0)), fitting(link, sight, ((0, 1), 0))), ((0, 1, 2, 3), (1, 2, 3)))
        self.same((fitting_states(link, sight, ((0, 1), 0)), page_text(link, ((0, 1), 0)), link_text(link)[-12:]),
                  ((1,), '0 1:0', 'link 0 2 3 1'))


class Chapter4(Case):
    def test_least_lengths(self):
        steps, turn = Machine([(1, 2, 2)]), Machine([(1, 0)])
        self.same((least_length(steps, 0, 1), least_length(steps, 0, 2), least_length(turn, 0, 1),
                   least_length(turn, 0, 1, 2)), (2, 2, None, 0))

    def test_a_link(self):
        steps = Machine([(1, 2, 2)])
        link = Link(steps, 0, 1, 1)
        self.same(sights_of(link), ((0, ((), 0)), (1, ((0,), 0)), (2, ((0,), 0))))
        self.same((is_right(link), open_pairs(link), runs_hold(link, ("runs", (0,), (), [0])),
                   heard_sight(link, (1, ((0,), 0)), ((0,), 0))), (False, ((1, 2),), True, None))
        self.same((sight_row(link, (2, ((0,), 0))), heard_sight(link, (0, ((), 0)), ((0,), 0)),
                   court_paper(Link(steps, 0, 2, 1))), ((0, 0), (1, ((0,), 0)), None))


class Chapter5(Case):
    def test_stairs(self):
        stairs = Machine([(1, 2, 2), (0, 1, 2)])
        self.same((harm_of(stairs, 0, 1, 0), harm_of(stairs, 0, 2, 0), harm_of(Machine([(1, 0)]), 0, 1, 0)),
                  (('ends', 1), ('ends', 3), ('endless',)))
        self.same((least_from(stairs, 0, 1), least_from(stairs, 0, 2), least_from(stairs, 0, 3),
                   rounds_of(stairs, 0, 3)), (2, 4, 6, 2))
        self.same((length_paper(stairs, 0, 3, 2)[:2], harm_holds(stairs, 0, 2, 0, 3, ("harm", [1, 0, 1], ()))),
                  ((2, 0), True))

    def test_a_turn(self):
        turn = Machine([(1, 0)])
        self.same((least_from(turn, 0, 1), least_from(turn, 0, 1, 2), least_from(turn, 0, 3, 2),
                   rounds_of(turn, 0, 1)), (None, 1, 3, None))


class Chapter6(Case):
    def test_an_hour(self):
        hour = Machine([(1, 2, 0)])
        self.same((turn_of(hour, 0, (0,)), turn_of(hour, 1, (0, 0, 0)), turning_lengths(hour, 0, 7)),
                  (3, 1, (1, 2, 4, 5, 7)))
        self.same((turn_paper(hour, 0, 7, 2), turned_rows(hour, 0, 3, 7, 2), good_moduli(hour, 0, 7),
                   least_modulus(hour, 0, 1)),
                  (('turn', (), (0, 0)), ((0, 0, 0, 0), (0, 0, 0, 0, 0, 0)), (3, 6, 8, 9), 2))
        self.same((counting_moduli(hour, 0, most=100), fewest_turning(hour, 0, most=100),
                   turn_holds(hour, 0, 7, 2, ("turn", [0], [0] * 4))), ((3, 6, 9), 1, True))

    def test_steps_and_an_idle_machine(self):
        steps = Machine([(1, 2, 2), (0, 0, 1)])
        self.same((turn_paper(steps, 0, 1), turn_paper(steps, 0, 2), fewest_turning(steps, 0, most=100)),
                  (None, None, None))
        idle = Machine([(1, 0), (0, 1)])
        self.same((counting_moduli(idle, 0, most=100), counting_holds(idle, 0, 4, ("turn", (), (0, 1, 1, 1)))),
                  ((), True))


class Chapter7(Case):
    def test_windows(self):
        lift = Machine([(0, 0, 1, 2), (1, 2, 3, 3)])
        self.same((least_window(lift, 0), len(like_pairs(lift, 0)),
                   window_holds(lift, 0, 9, 1, ("round", (), (1,), (1, 0)))), (None, 6, True))
        self.same((told_states(lift, 0, 2, ((1, 1), 0)), telling_pages(lift, 0, 3), first_telling(lift, 0)),
                  ((2, 3), (2, 8), ((0, 0, 0), 0)))
        cell = Machine([(0, 0), (1, 1)])
        self.same((least_window(cell, 0), telling_pages(cell, 0, 1, 2)), (1, (4, 4)))


class Readme(Case):
    def test_examples(self):
        failed, tried = doctest.testfile(README, module_relative=False)
        self.assertEqual(failed, 0)
        self.assertGreater(tried, 0)


if __name__ == "__main__":
    unittest.main()
