"""[16], [17]: ends that do harm."""

import unittest

from pagesagain.errors import NoState, Refused
from pagesagain.machines import Machine, led, reached
from pagesagain.repeats import harm_holds, harm_of, harm_paper
from tests.helper import (GREAT, HOUR, LIFT, ONE, STAIRS, SWITCH, WORN, Case, bent, machines_of, no_numbers,
                          no_numbers_from, rows_of, rows_to)

MACHINES = (machines_of(2, 2)[::2] + machines_of(3, 1)[::2] + machines_of(3, 2)[7::61]
            + [WORN, STAIRS, SWITCH, HOUR, LIFT])
SHORT = [(1, 0), (1, 1), (1, 2), (2, 0), (2, 1), (3, 0)]


def repeats(row, step):
    return all(row[at] == row[at - step] for at in range(step, len(row)))


def does_harm(machine, first, row, step, more, length):
    """As the document tells it of a history's end."""
    if len(row) < length or not repeats(row[len(row) - length:], step):
        return False
    state = led(machine, first, row)
    again = led(machine, state, row[len(row) - step:])
    return any(led(machine, state, then) != led(machine, again, then) for then in rows_of(machine.deeds, more))


def harmful_lengths(machine, first, step, more, greatest):
    """By all ends that repeat, behind each state that comes."""
    found = []
    for length in range(step, greatest + 1):
        for word in rows_of(machine.deeds, step):
            end = tuple(word[(at - length) % step] for at in range(length))
            if any(does_harm(machine, state, end, step, more, length) for state in reached(machine, first)):
                found.append(length)
                break
    return found


class HarmOf(Case):
    def test_by_all_ends(self):
        met = set()
        for machine in MACHINES:
            for step, more in SHORT:
                # So many turns of a step lead all states to those in which they stay for ever.
                greatest = step * (machine.states + 1)
                found = harmful_lengths(machine, 0, step, more, greatest)
                expected = ("ends", len(found) + step - 1) if found else ("none",)
                if len(found) == greatest - step + 1:
                    expected = ("endless",)
                # An end that does harm does so with each shorter one, down to the step.
                self.assertEqual(found, list(range(step, step + len(found))))
                self.same(harm_of(machine, 0, step, more), expected)
                self.same(harm_of(machine=machine, first=0, step=step, more=more), expected)
                met.add(expected)
        self.assertLessEqual({("none",), ("endless",), ("ends", 1), ("ends", 2), ("ends", 3), ("ends", 5)}, met)

    def test_by_all_short_histories(self):
        for machine in (STAIRS, WORN, Machine([(1, 2, 3, 3), (0, 0, 0, 0)]), Machine([(1, 1, 0), (2, 2, 2)])):
            for step, more in SHORT:
                longest = max([0] + [length for row in rows_to(2, 8) for length in range(step, len(row) + 1)
                                     if does_harm(machine, 0, row, step, more, length)])
                told = harm_of(machine, 0, step, more)
                if told == ("endless",):
                    self.assertEqual(longest, 8)
                elif told == ("none",):
                    self.assertEqual(longest, 0)
                else:
                    self.assertEqual(longest, min(told[1], 8))

    def test_other_first_states(self):
        machine = Machine([(1, 2, 3, 3)])
        self.same([harm_of(machine, first, 1, 0) for first in range(4)],
                  [("ends", 2), ("ends", 1), ("none",), ("none",)])
        self.same([harm_of(machine, 0, 1, more) for more in range(4)], [("ends", 2), ("ends", 1), ("none",), ("none",)])

    def test_limits(self):
        stair = Machine([(1, 2, 3, 4, 5, 6, 7, 7)])
        self.same((harm_of(stair, 0, 390, 0), harm_of(stair, 0, 1, 390), harm_of(stair, 0, 1, 0)),
                  (("none",), ("none",), ("ends", 6)))
        self.same((harm_of(SWITCH, 0, 389, 390), harm_of(SWITCH, 0, 390, 390)), (("endless",), ("none",)))
        steps = Machine([(1, 2, 3, 4, 5, 6, 7, 7), tuple(range(8))])
        self.same((harm_of(steps, 0, 8, 0), harm_of(steps, 0, 1, 0), harm_of(steps, 0, 4, 4)),
                  (("ends", 55), ("ends", 6), ("ends", 27)))
        self.same((harm_of(GREAT, 0, 4, 0), harm_of(GREAT, 0, 1, 3)), (("endless",), ("endless",)))

    def test_wrong_arguments(self):
        for value in no_numbers(0, 2):
            self.refuses(NoState, value, harm_of, WORN, value, 0, -1)
            self.refuses(NoState, value, harm_paper, WORN, value, 0, -1, 0)
            self.refuses(NoState, value, harm_holds, WORN, value, 0, -1, 0, None)
        for value in no_numbers_from(1):
            self.refuses(Refused, value, harm_of, WORN, 0, value, -1)
            self.refuses(Refused, value, harm_paper, WORN, 0, value, -1, 0)
            self.refuses(Refused, value, harm_holds, WORN, 0, value, -1, 0, None)
        for value in no_numbers_from(0):
            self.refuses(Refused, value, harm_of, machine=WORN, first=0, step=1, more=value)
            self.refuses(Refused, value, harm_paper, WORN, 0, 1, value, 0)
            self.refuses(Refused, value, harm_holds, WORN, 0, 1, value, 0, None)
        for step in (1, 2, 390, 10 ** 30):
            for value in no_numbers_from(step) + [0, -step]:
                self.refuses(Refused, value, harm_paper, WORN, 0, step, 0, value)
                self.refuses(Refused, value, harm_holds, WORN, 0, step, 0, length=value, value=None)


class HarmPaper(Case):
    def shows(self, machine, first, step, more, length):
        paper = harm_paper(machine, first, step, more, length)
        word, row, behind = paper
        self.same(paper, ("harm", tuple(row), tuple(behind)))
        self.assertEqual(word, "harm")
        self.assertTrue(length <= len(row) <= 400 and len(behind) == more)
        self.assertTrue(repeats(row[len(row) - length:], step))
        state = led(machine, first, row)
        again = led(machine, state, row[len(row) - step:])
        self.assertNotEqual(led(machine, state, behind), led(machine, again, behind))
        self.same(harm_holds(machine, first, step, more, length, paper), True)
        self.same(harm_holds(machine, first, step, more, length, [word, list(row), list(behind)]), True)
        self.same(harm_holds(machine=machine, first=first, step=step, more=more, length=length, value=paper), True)

    def test_papers_to_the_greatest_length(self):
        for machine in MACHINES:
            for first in range(machine.states):
                for step, more in SHORT:
                    told = harm_of(machine, first, step, more)
                    longest = {"none": step - 1, "ends": told[-1], "endless": 14}[told[0]]
                    for length in range(step, longest + 1):
                        self.shows(machine, first, step, more, length)
                    for length in range(longest + 1, 15 if told == ("endless",) else longest + 4):
                        self.same(harm_paper(machine, first, step, more, length), None)

    def test_limits(self):
        self.shows(SWITCH, 0, 389, 390, 390)
        self.shows(GREAT, 7, 1, 3, 390)
        self.shows(GREAT, 0, 4, 0, 390)
        # The row ahead and the end together have no more deeds than a history may have.
        late = Machine([(1, 2, 3, 4, 5, 6, 7, 6), (0, 0, 0, 0, 0, 0, 0, 0)])
        self.shows(late, 0, 1, 3, 390)
        self.shows(late, 0, 7, 1, 55)
        self.same(harm_paper(STAIRS, 0, 2, 0, 390), None)
        self.shows(SWITCH, 0, 1, 1, 400)
        self.same(harm_paper(SWITCH, 0, 1, 1, 401), None)
        # Only behind a deed ahead of it does the end do harm.
        ahead = Machine([(0, 2, 1), (1, 1, 2)])
        self.shows(ahead, 0, 1, 0, 399)
        self.same(harm_paper(ahead, 0, 1, 0, 400), None)


class HarmHolds(Case):
    def test_all_short_histories(self):
        met = 0
        for machine in (STAIRS, WORN, Machine([(1, 2, 3, 3), (0, 0, 0, 0)])):
            for step, more, length in ((1, 0, 1), (1, 1, 2), (2, 0, 3), (2, 1, 2), (3, 0, 3)):
                for row in rows_to(2, 5):
                    for behind in rows_to(2, 2):
                        holds = len(row) >= length and repeats(row[len(row) - length:], step) and len(behind) == more
                        if holds:
                            state = led(machine, 1, row)
                            again = led(machine, state, row[len(row) - step:])
                            holds = led(machine, state, behind) != led(machine, again, behind)
                        met += holds
                        self.same(harm_holds(machine, 1, step, more, length, ("harm", row, behind)), holds)
        self.assertGreater(met, 40)

    def test_values_of_any_kind(self):
        paper = ("harm", (1, 0, 1), (0,))
        self.same(harm_holds(Machine([(1, 2, 3, 3), (0, 1, 2, 3)]), 0, 2, 1, 3, paper), True)
        for value in bent(paper):
            self.same(harm_holds(Machine([(1, 2, 3, 3), (0, 1, 2, 3)]), 0, 2, 1, 3, value), False)

    def test_lengths_of_rows(self):
        self.same(harm_holds(SWITCH, 0, 1, 400, 400, ("harm", [0] * 400, [0] * 400)), True)
        self.same(harm_holds(SWITCH, 0, 1, 400, 400, ("harm", [0] * 401, [0] * 400)), False)
        self.same(harm_holds(SWITCH, 0, 1, 401, 400, ("harm", [0] * 400, [0] * 401)), False)
        self.same(harm_holds(SWITCH, 0, 1, 0, 401, ("harm", [0] * 400, [])), False)
        self.same(harm_holds(SWITCH, 0, 10 ** 30, 0, 10 ** 30, ("harm", [0] * 400, [])), False)
        self.same(harm_holds(SWITCH, 0, 399, 0, 400, ("harm", [0] * 400, [])), True)
        self.same(harm_holds(SWITCH, 0, 400, 0, 400, ("harm", [0] * 400, [])), False)

    def test_one_state(self):
        self.same((harm_of(ONE, 0, 1, 0), harm_paper(ONE, 0, 1, 0, 1)), (("none",), None))
        self.same(harm_holds(ONE, 0, 1, 0, 1, ("harm", (0,), ())), False)


if __name__ == "__main__":
    unittest.main()
