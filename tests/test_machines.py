"""[5]: machines, states, deeds and rows; and [1] to [3] as they hold of these."""

import itertools
import unittest

from pagesagain.errors import BadMachine, BadRow, NoDeed, NoState
from pagesagain.machines import Machine, check_row, led, need_deed, need_state, reached
from pagesagain.pages import Link
from tests.helper import GREAT, NO_INTEGERS, NO_SEQUENCES, ONE, WORN, Case, machines_of, no_numbers, rows_to


class Machines(Case):
    def test_attributes(self):
        self.same((WORN.deeds, WORN.states, WORN.tables), (2, 3, ((1, 2, 2), (0, 0, 1))))
        self.same((ONE.deeds, ONE.states, ONE.tables), (1, 1, ((0,),)))
        self.same((GREAT.deeds, GREAT.states, GREAT.tables[2]), (4, 8, (0,) * 8))

    def test_lists_and_tuples_make_one_machine(self):
        made = [Machine(tables) for tables in ([[1, 0]], [(1, 0)], ([1, 0],), ((1, 0),))]
        for machine in made:
            self.same(machine.tables, ((1, 0),))
            self.assertEqual(machine, made[0])
        self.assertEqual(Machine(tables=[[1, 0]]), made[0])

    def test_equality(self):
        self.assertFalse(Machine([(0, 1)]) == Machine([(1, 0)]))
        self.assertTrue(Machine([(0, 1)]) != Machine([(1, 0)]))
        self.assertFalse(Machine([(0, 1)]) != Machine([(0, 1)]))
        self.assertFalse(Machine([(0, 1)]) == Machine([(0, 1), (0, 1)]))
        self.assertFalse(Machine([(0,)]) == Machine([(0, 0)]))
        for value in NO_INTEGERS + NO_SEQUENCES + [((1, 0),), Link(WORN, 0, 0, 0)]:
            self.assertIs(Machine([(1, 0)]) == value, False)
            self.assertIs(value == Machine([(1, 0)]), False)

    def test_later_changes_have_no_effect(self):
        tables = [[1, 2, 2], [0, 0, 1]]
        machine = Machine(tables)
        self.assertEqual(tables, [[1, 2, 2], [0, 0, 1]])
        tables[0][0] = 0
        tables.append([0, 0, 0])
        self.assertEqual(machine, WORN)

    def test_no_sequence_of_tables(self):
        for value in NO_SEQUENCES + [[], (), [(0,)] * 5, ((0,),) * 5, [None] * 5]:
            self.refuses(BadMachine, -1, Machine, value)
            self.refuses(BadMachine, -1, Machine, tables=value)
        self.assertEqual(Machine([(0,)] * 4).deeds, 4)

    def test_the_first_wrong_table(self):
        wrong = NO_SEQUENCES + [[], (), [0] * 9, (0,) * 9, [2, 0], [-1, 0], [True, 0], [0, False], [0, None], [0, "1"]]
        for value in wrong + [[0, [1]], [[0, 1]], [ONE, 0]]:
            self.refuses(BadMachine, 0, Machine, [value])
            self.refuses(BadMachine, 0, Machine, (value, value))
            self.refuses(BadMachine, 1, Machine, [(1, 0), value])
            self.refuses(BadMachine, 2, Machine, ([1, 0], (0, 0), value, value))
            self.refuses(BadMachine, 3, Machine, [(0, 0), (1, 0), (0, 1), value])

    def test_as_many_states_as_the_first_table(self):
        self.refuses(BadMachine, 1, Machine, [(0,), (0, 0)])
        self.refuses(BadMachine, 1, Machine, [(0, 0), (0,), (0, 5)])
        self.refuses(BadMachine, 2, Machine, [(0, 0), (0, 1), (0, 0, 0)])
        self.refuses(BadMachine, 0, Machine, [(8,) * 8])
        self.refuses(BadMachine, 0, Machine, [(1,), (0, 0)])


class StatesAndDeeds(Case):
    def test_they_are_told_themselves(self):
        for machine in (ONE, WORN, GREAT):
            for state in range(machine.states):
                self.same(need_state(machine, state), state)
                self.same(need_state(machine=machine, state=state), state)
            for deed in range(machine.deeds):
                self.same(need_deed(machine, deed), deed)
                self.same(need_deed(machine=machine, deed=deed), deed)

    def test_others_are_kept(self):
        for machine in (ONE, WORN, GREAT):
            for value in no_numbers(0, machine.states - 1):
                self.refuses(NoState, value, need_state, machine, value)
                self.refuses(NoState, value, led, machine, value, [])
                self.refuses(NoState, value, reached, machine, value)
                self.refuses(NoState, value, reached, machine=machine, state=value)
            for value in no_numbers(0, machine.deeds - 1):
                self.refuses(NoDeed, value, need_deed, machine, value)


class Rows(Case):
    def test_as_tuples(self):
        for row in rows_to(2, 4):
            self.same(check_row(WORN, row), row)
            self.same(check_row(WORN, list(row)), row)
        self.same(check_row(machine=WORN, value=[1]), (1,))
        self.same(check_row(GREAT, [3] * 400), (3,) * 400)

    def test_the_row_is_copied(self):
        row = [0, 1]
        told = check_row(WORN, row)
        row.append(0)
        self.same(told, (0, 1))

    def test_no_sequence_of_that_length(self):
        for value in NO_SEQUENCES + [[0] * 401, (0,) * 401, [None] * 500]:
            self.refuses(BadRow, -1, check_row, WORN, value)
            self.refuses(BadRow, -1, led, WORN, 0, value)

    def test_the_first_item_that_is_no_deed(self):
        for machine in (ONE, WORN, GREAT):
            for value in no_numbers(0, machine.deeds - 1):
                self.refuses(BadRow, 0, check_row, machine, [value])
                self.refuses(BadRow, 2, check_row, machine, (0, 0, value, value))
                self.refuses(BadRow, 399, check_row, machine, [0] * 399 + [value])
                self.refuses(BadRow, 1, led, machine, 0, (0, value))

    def test_where_rows_lead(self):
        for machine in (ONE, WORN, GREAT, Machine([(1, 0)])):
            for state in range(machine.states):
                for row in rows_to(machine.deeds, 3):
                    here = state
                    for deed in row:
                        here = machine.tables[deed][here]
                    self.same(led(machine, state, row), here)
                    self.same(led(machine=machine, state=state, row=list(row)), here)

    def test_the_order_of_deeds_and_long_rows(self):
        self.same((led(WORN, 0, (0, 0, 1)), led(WORN, 0, (1, 0, 0)), led(WORN, 1, ())), (1, 2, 1))
        self.same(led(Machine([(1, 2, 0)]), 0, [0] * 400), 1)
        self.same(led(GREAT, 0, [1] * 399), 7)

    def test_the_state_is_looked_at_first(self):
        value = [0]
        self.refuses(NoState, value, led, WORN, value, "no row")
        self.refuses(NoState, value, led, row=[9], state=value, machine=WORN)


class Reached(Case):
    def test_some(self):
        self.same((reached(WORN, 2), reached(ONE, 0), reached(GREAT, 5)), ((0, 1, 2), (0,), tuple(range(8))))
        self.same(reached(Machine([(1, 2, 2)]), 1), (1, 2))
        self.same(reached(Machine([(0, 2, 3, 1), (0, 1, 2, 3)]), 2), (1, 2, 3))
        self.same(reached(machine=Machine([(1, 2, 3, 4, 5, 6, 7, 7)]), state=0), tuple(range(8)))

    def test_as_short_rows_lead(self):
        for machine in machines_of(3, 1) + machines_of(2, 2) + machines_of(3, 2)[::11]:
            rows = rows_to(machine.deeds, machine.states - 1)
            for state in range(machine.states):
                expected = tuple(sorted({led(machine, state, row) for row in rows}))
                self.same(reached(machine, state), expected)

    def test_again_the_same(self):
        for first, second in itertools.product(machines_of(2, 1), repeat=2):
            ahead = reached(first, 0)
            reached(second, 1)
            self.same(reached(first, 0), ahead)


if __name__ == "__main__":
    unittest.main()
