"""[25]: machines that count."""

import itertools
import math
import unittest

from pagesagain.counting import counting_holds, counting_moduli, counting_paper, fewest_turning
from pagesagain.court import least_length
from pagesagain.errors import NoState, Refused
from pagesagain.machines import Machine, led, reached
from pagesagain.turning import good_moduli
from tests.helper import (GREAT, HOUR, LIFT, ONE, STAIRS, SWITCH, WORN, Case, bent, machines_of, no_numbers, rows_to,
                          turns_round, turns_some)

RING = Machine([(1, 2, 3, 4, 5, 6, 7, 0)])
# Rings of three and of five, turned together or each by itself.
RINGS = Machine([(1, 2, 0, 4, 5, 6, 7, 3), (1, 2, 0, 3, 4, 5, 6, 7), (0, 1, 2, 4, 5, 6, 7, 3), (3,) * 8])
SEVEN = Machine([(1, 2, 3, 4, 5, 6, 0, 0), (7, 1, 2, 3, 4, 5, 6, 7)])
IDLE = Machine([(1, 0), (0, 1)])
# No deed leads a state past one that was above it, so no row goes round.
MONOTONE = Machine([(1, 2, 3, 4, 5, 6, 7, 7), (0, 0, 1, 2, 3, 4, 5, 6), (0, 1, 2, 3, 4, 5, 6, 6),
                    (0, 0, 2, 3, 4, 5, 6, 7)])
MACHINES = (machines_of(2, 2)[::2] + machines_of(3, 1) + machines_of(3, 2)[7::31]
            + [WORN, STAIRS, SWITCH, HOUR, LIFT, IDLE])


def ways_of(machine, first, modulus):
    """By (way, number) the fewest deeds of a row that leads the states that come so, told as pairs."""
    states = reached(machine, first)
    start = (tuple((state, state) for state in states), 0)
    found = {start: 0}
    layer = [start]
    while layer:
        fresh = []
        for way, number in layer:
            for table in machine.tables:
                then = (tuple((state, table[there]) for state, there in way), (number + 1) % modulus)
                if then not in found:
                    found[then] = found[way, number] + 1
                    fresh.append(then)
        layer = fresh
    return found


def goes_round(way):
    leads = dict(way)
    for state, there in way:
        if there != state:
            for _ in way:
                there = leads[there]
                if there == state:
                    return True
    return False


def counts(machine, first, modulus):
    """Whether no row whose number of deeds the modulus divides goes round."""
    return not any(number == 0 and goes_round(way) for way, number in ways_of(machine, first, modulus))


def rings_of(machine, first):
    """How many rows of two, three, five or seven unlike states that come there are."""
    return sum(math.perm(len(reached(machine, first)), size) for size in (2, 3, 5, 7))


class Paper(Case):
    def shows(self, machine, first, modulus, paper):
        word, ahead, row = paper
        self.same(paper, ("turn", tuple(ahead), tuple(row)))
        self.assertEqual(word, "turn")
        self.assertTrue(0 < len(row) <= 1000 and len(row) % modulus == 0)
        state = first
        for deed in ahead:
            state = machine.tables[deed][state]
        met = [state]
        while met.count(met[-1]) < 2:
            there = met[-1]
            for deed in row:
                there = machine.tables[deed][there]
            met.append(there)
        self.assertTrue(met[-1] == state and len(met) > 2)
        self.same(counting_holds(machine, first, modulus, paper), True)
        self.same(counting_holds(machine=machine, first=first, modulus=modulus, value=list(paper)), True)

    def test_by_all_ways(self):
        papers = 0
        for machine in MACHINES:
            for first in range(machine.states):
                for modulus in range(1, 10):
                    told = counting_paper(machine, first, modulus, most=400000)
                    self.assertEqual(told is None, counts(machine, first, modulus))
                    if told is not None:
                        papers += 1
                        self.shows(machine, first, modulus, told)
        self.assertGreater(papers, 300)

    def test_rings_of_each_size(self):
        for size in range(2, 9):
            machine = Machine([tuple(range(1, size)) + (0,)])
            for modulus in range(1, 10):
                told = counting_paper(machine, first=size - 1, modulus=modulus, most=400000)
                self.assertEqual(told is None, modulus % size == 0)
                if told is not None:
                    self.shows(machine, size - 1, modulus, told)

    def test_great_machines(self):
        for machine in (GREAT, RING, RINGS, SEVEN, LIFT, MONOTONE):
            for modulus in range(1, 10):
                told = counting_paper(machine, 0, modulus, most=400000)
                if told is not None:
                    self.shows(machine, 0, modulus, told)
                else:
                    self.assertIn(machine, (RING, LIFT, MONOTONE))
        self.same(counting_paper(MONOTONE, 0, most=400000), None)

    def test_the_modulus_is_one_if_it_is_not_told(self):
        self.same(counting_paper(SWITCH, 0, most=100), ("turn", (), (0,)))
        self.same(counting_paper(SWITCH, 0, 2, most=100), None)

    def test_only_states_that_come_count(self):
        machine = Machine([(0, 2, 1)])
        self.same((counting_paper(machine, 0, most=1), counting_moduli(machine, 0, most=1)),
                  (None, tuple(range(1, 10))))
        self.same((counting_moduli(machine, 1, most=100), fewest_turning(machine, 0, most=1)), ((2, 4, 6, 8), None))

    def test_wrong_arguments(self):
        for value in no_numbers(0, 2):
            self.refuses(NoState, value, counting_paper, WORN, value, 0, most=1)
            self.refuses(NoState, value, counting_holds, WORN, value, 0, None)
            self.refuses(NoState, value, counting_moduli, WORN, value, most=1)
            self.refuses(NoState, value, fewest_turning, machine=WORN, first=value, most=1)
        for value in no_numbers(1, 9):
            self.refuses(Refused, value, counting_paper, WORN, 0, value, most=1)
            self.refuses(Refused, value, counting_holds, WORN, first=0, modulus=value, value=None)

    def test_most_goes_by_its_name(self):
        self.assertRaises(TypeError, counting_paper, HOUR, 0, 1, 100)
        self.assertRaises(TypeError, counting_moduli, HOUR, 0, 100)
        self.assertRaises(TypeError, fewest_turning, HOUR, 0, 100)
        for call in (counting_paper, counting_moduli, fewest_turning):
            self.assertRaises(TypeError, call, HOUR, 0)


class Most(Case):
    def test_where_there_is_more_to_look_at(self):
        for machine in MACHINES[::3] + [RING, RINGS]:
            rings = rings_of(machine, 0)
            for most in [1, 2, 5] + [many for many in (rings - 1, rings, rings + 1) if many > 0]:
                for modulus in (1, 2, 6):
                    # Of several papers each is one, so the one that is told without a bound is expected.
                    expected = counting_paper(machine, 0, modulus, most=400000)
                    self.searched(expected, rings, most, counting_paper, machine, 0, modulus)
                self.searched(counting_moduli(machine, 0, most=400000), rings, most, counting_moduli, machine, 0)

    def test_the_greatest_machines(self):
        self.assertEqual(rings_of(GREAT, 0), 47432)
        self.same(counting_moduli(GREAT, 0, most=47432), ())
        self.searched((), 47432, 47431, counting_moduli, GREAT, 0)

    def test_ways(self):
        for machine in MACHINES + [RING, RINGS]:
            ways = ways_of(machine, 0, 1)
            expected = min([many for (way, _), many in ways.items() if goes_round(way)], default=None)
            looked = len([many for many in ways.values() if expected is None or many <= expected])
            for most in [1, 2, 3] + [many for many in (looked - 1, looked, looked + 1) if many > 0]:
                self.searched(expected, looked, most, fewest_turning, machine, 0)


class Holds(Case):
    def test_all_short_rows(self):
        met = 0
        for machine in (HOUR, STAIRS, LIFT, IDLE):
            for ahead, row in itertools.product(rows_to(machine.deeds, 2), rows_to(machine.deeds, 4)):
                turns = turns_round(machine, led(machine, 0, ahead), row)
                for modulus in (1, 2, 3, 4, 9):
                    holds = turns and len(row) % modulus == 0
                    met += holds
                    self.same(counting_holds(machine, 0, modulus, ("turn", ahead, row)), holds)
        self.assertGreater(met, 30)

    def test_values_of_any_kind(self):
        paper = ("turn", (0,), (0, 0))
        self.same(counting_holds(HOUR, 0, 2, paper), True)
        for value in bent(paper):
            self.same(counting_holds(HOUR, 0, 2, value), False)

    def test_rows_however_long(self):
        for many in (9, 399, 400, 401, 99999, 100000):
            self.same(counting_holds(HOUR, 0, 1, ("turn", [0] * many, [0] * many)), many % 3 != 0)
            self.same(counting_holds(HOUR, 0, 5, ["turn", (), (0,) * many]), many % 3 != 0 and many % 5 == 0)
        self.same(counting_holds(HOUR, 0, 1, ("turn", [0] * 99999 + [1], (0,))), False)
        self.same(counting_holds(HOUR, 0, 1, ("turn", (0,), [0] * 99999 + [True])), False)
        last = Machine([(1, 2, 3, 4, 5, 6, 7, 7)])
        self.same(counting_holds(last, 0, 1, ("turn", (), [0] * 100000)), False)


class Moduli(Case):
    def test_by_all_ways(self):
        met = set()
        for machine in MACHINES:
            for first in range(machine.states):
                expected = tuple(modulus for modulus in range(1, 10) if counts(machine, first, modulus))
                met.add(expected)
                self.same(counting_moduli(machine, first, most=400000), expected)
                self.same(counting_moduli(machine=machine, first=first, most=400000), expected)
        self.assertLessEqual({(), (2, 4, 6, 8), (3, 6, 9), tuple(range(1, 10))}, met)

    def test_rings(self):
        self.same(counting_moduli(RING, 0, most=400000), (8,))
        self.same((counting_moduli(RINGS, 0, most=400000), counting_moduli(SEVEN, 0, most=400000)), ((), ()))
        sizes = [Machine([tuple(range(1, size)) + (0,)]) for size in range(1, 8)]
        self.same([counting_moduli(machine, 0, most=400000) for machine in sizes],
                  [tuple(range(1, 10)), (2, 4, 6, 8), (3, 6, 9), (4, 8), (5,), (6,), (7,)])
        self.same(counting_moduli(MONOTONE, 0, most=400000), tuple(range(1, 10)))

    def test_for_each_loss_some_length_is_right(self):
        for machine in MACHINES[::3]:
            good = counting_moduli(machine, 0, most=400000)
            for modulus in range(1, 10):
                for loss in range(4):
                    if modulus in good:
                        self.assertIn(modulus, good_moduli(machine, 0, loss))
                        self.assertIsNotNone(least_length(machine, 0, loss, modulus, most=20000))
                if modulus not in good:
                    paper = counting_paper(machine, 0, modulus, most=400000)
                    if len(paper[2]) <= 3:
                        self.assertIsNone(least_length(machine, 0, len(paper[2]), modulus, most=20000))


class Fewest(Case):
    def test_by_all_ways(self):
        met = set()
        for machine in MACHINES + [RINGS, MONOTONE]:
            for first in range(machine.states):
                found = [many for (way, _), many in ways_of(machine, first, 1).items() if goes_round(way)]
                expected = min(found, default=None)
                met.add(expected)
                self.same(fewest_turning(machine, first, most=400000), expected)
                self.same(fewest_turning(machine=machine, first=first, most=400000), expected)
        self.assertLessEqual({None, 1, 2}, met)

    def test_the_least_loss_for_which_no_length_is_right(self):
        for machine in MACHINES[::2]:
            fewest = fewest_turning(machine, 0, most=400000)
            for loss in range(4):
                least = least_length(machine, 0, loss, most=20000)
                self.assertEqual(least is None, fewest is not None and loss >= fewest)

    def test_long_rows(self):
        machines = [Machine([(1, 1, 0, 1), (3, 2, 2, 2)]), Machine([(1, 5, 0, 4, 3, 5), (2, 5, 2, 1, 3, 2)]),
                    Machine([(5, 2, 2, 2, 3, 1), (4, 0, 1, 0, 4, 0)]),
                    Machine([(0, 1, 0, 4, 1, 2), (4, 3, 5, 4, 5, 5)])]
        self.same([fewest_turning(machine, 0, most=400000) for machine in machines], [2, 3, 4, 5])
        for machine, fewest in zip(machines, (2, 3, 4, 5)):
            turning = [row for row in rows_to(2, fewest) if turns_some(machine, 0, row)]
            self.assertEqual({len(row) for row in turning}, {fewest})
        self.same((fewest_turning(ONE, 0, most=1), fewest_turning(RING, 5, most=2)), (None, 1))


if __name__ == "__main__":
    unittest.main()
