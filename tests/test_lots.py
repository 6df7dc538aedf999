"""[37], [38]: lots, pages that tell the state by themselves, and lots behind later pages."""

import itertools
import random
import unittest

from pagesagain.court import is_right
from pagesagain.errors import BadPage, Refused
from pagesagain.lots import is_sure, lot_behind, lots_along
from pagesagain.machines import Machine, led
from pagesagain.pages import Link, page_of, sent_states, sight_of
from tests.helper import (GREAT, HOUR, LIFT, NO_INTEGERS, NO_SEQUENCES, ONE, STAIRS, SWITCH, WORN, Case, led_on,
                          machines_of, no_numbers, rows_of, rows_to, short_histories, told_page)
from tests.test_court import LINKS

CELL = Machine([(0, 0), (1, 1), (0, 1)])
SOME = LINKS[::9] + [Link(CELL, 0, 1, 1), Link(LIFT, 0, 2, 2, 2), Link(HOUR, 0, 0, 4, 3), Link(SWITCH, 1, 3, 2),
                     Link(ONE, 0, 1, 1), Link(STAIRS, 2, 2, 3)]
BAD_PAGES = ([(-1, value) for value in NO_SEQUENCES + [(), ((), 0, 0), [()]]]
             + [(0, (value, 0)) for value in NO_SEQUENCES + [[0] * 3, (3,), [True]]]
             + [(1, ((0, 0), value)) for value in no_numbers(0, 1)] + [(1, ((0,), 0)), (1, ((), 1))])


def lots_of(machine):
    """All lots."""
    return [lot for many in range(1, machine.states + 1) for lot in itertools.combinations(range(machine.states), many)]


def no_lots(states):
    """Values that are no lot of a machine of so many states, three or more."""
    wrong = [value for value in NO_INTEGERS + [-1, states, 10 ** 30]]
    return (NO_SEQUENCES + [[], (), (0, 0), [1, 0], (0, 2, 1), [2, 2, 2], (0, 1, 1), list(range(states + 1))]
            + [[value] for value in wrong] + [(0, value) for value in wrong])


def some_pages(link):
    """Each page that can be sent, of links that are not great."""
    return sorted({told_page(link, row) for row in rows_to(link.machine.deeds, link.length + link.modulus - 1)})


class Sure(Case):
    def test_by_all_histories(self):
        met = set()
        for link in SOME:
            states = {}
            for row in short_histories(link)[:20000]:
                states.setdefault(told_page(link, row), set()).add(led(link.machine, link.first, row))
            for page, those in states.items():
                met.add(len(those) == 1)
                self.same(is_sure(link, page), len(those) == 1)
                self.same(is_sure(page=[list(page[0]), page[1]], link=link), len(those) == 1)
                self.same(sent_states(link, page), tuple(sorted(those)))
        self.assertEqual(met, {True, False})

    def test_longest_pages(self):
        link = Link(GREAT, 0, 12, 8, 9)
        self.same((is_sure(link, ([1] * 12, 0)), is_sure(link, ([1] * 11 + [3], 0)), is_sure(link, ([1] * 11, 2))),
                  (False, True, True))

    def test_wrong_pages(self):
        link = Link(CELL, 0, 2, 1, 2)
        for fault, value in BAD_PAGES:
            self.refuses(BadPage, fault, is_sure, link, value)
            self.refuses(BadPage, fault, is_sure, page=value, link=link)


class LotBehind(Case):
    def compare(self, link, lot, page, pages):
        """With the link's own loss, with other ones and without a bound."""
        for loss in (0, 1, link.loss, 4, 100, None):
            lots = led_on(link, lot, page, loss)
            for then in pages:
                expected = tuple(sorted(lots.get(then, ())))
                self.same(lot_behind(link, lot, page, then, loss=loss), expected)
                if loss is None:
                    self.same(lot_behind(link, lot, page, then), expected)
            self.assertLessEqual(set(lots), set(pages))

    def test_all_lots_and_pages(self):
        for link in SOME:
            pages = some_pages(link)
            for at, (lot, page) in enumerate(itertools.product(lots_of(link.machine), pages)):
                if at % 5 == 0:
                    self.compare(link, lot, page, pages)

    def test_by_all_rows(self):
        for link in SOME:
            for lot, page, loss in itertools.product(lots_of(link.machine)[::2], some_pages(link)[::3], (0, 1, 3)):
                lots = {}
                for row in rows_to(link.machine.deeds, loss):
                    # The deeds that the page tells stand here as if they were all that were done.
                    deeds = (page[0] + row)[-link.length:] if link.length else ()
                    then = (deeds, (page[1] + len(row)) % link.modulus)
                    lots.setdefault(then, set()).update(led(link.machine, state, row) for state in lot)
                for then in some_pages(link):
                    self.same(lot_behind(link, list(lot), [list(page[0]), page[1]], then, loss=loss),
                              tuple(sorted(lots.get(then, ()))))

    def test_great_ones(self):
        link = Link(GREAT, 3, 2, 1, 9)
        self.compare(link, (0, 5), ((1, 3), 8), some_pages(link)[::7] + some_pages(link))
        turn = Machine([(1, 2, 3, 4, 5, 6, 7, 0)])
        for modulus in range(1, 10):
            link = Link(turn, 0, 12, 0, modulus)
            self.compare(link, (0, 3), ((0,) * 12, 0), [((0,) * 12, number) for number in range(modulus)])
            self.compare(link, (7,), ((0,) * 3, 3 % modulus), some_pages(link))

    def test_pages_that_cannot_be_sent_so(self):
        link = Link(WORN, 0, 2, 3, 2)
        self.same(lot_behind(link, (0, 1), ((0, 1), 0), ((0, 1), 1), loss=1), ())
        self.same(lot_behind(link, (0, 1), ((0, 1), 0), ((0,), 1)), ())
        self.same(lot_behind(link, (0, 1), ((0,), 1), ((1,), 1)), ())
        self.same(lot_behind(link, (0, 1), ((0,), 1), ((1,), 1), loss=100), ())
        self.same(lot_behind(link, (1,), ((0, 1), 0), ((1, 1), 1), loss=0), ())
        self.same(lot_behind(link, (1,), ((0, 1), 0), ((1, 1), 1), loss=1), (0,))

    def test_errors_in_their_order(self):
        link = Link(CELL, 0, 2, 1, 2)
        page = ((0, 1), 1)
        for call, rest in ((lot_behind, ("no page",)), (lots_along, ("no pages",))):
            for value in no_lots(2):
                self.refuses(Refused, value, call, link, value, "no page", *rest, loss=-1)
            for fault, value in BAD_PAGES:
                self.refuses(BadPage, fault, call, link, [0, 1], value, *rest, loss=-1)
        for fault, value in BAD_PAGES:
            self.refuses(BadPage, fault, lot_behind, link, (1,), page, value, loss=-1)
            self.refuses(BadPage, fault, lots_along, link, (1,), page, [page, value, "no page"], loss=-1)
        for value in no_numbers(0, 100):
            if value is not None:
                self.refuses(Refused, value, lot_behind, link, (1,), page, page, loss=value)
                self.refuses(Refused, value, lots_along, link, (1,), page, (page,), loss=value)
                self.refuses(Refused, value, lots_along, link, (1,), page, (), loss=value)
        for value in NO_SEQUENCES:
            self.refuses(Refused, value, lots_along, link, (1,), page, value, loss=-1)
            self.refuses(Refused, value, lots_along, link=link, lot=(1,), page=page, pages=value)
        # Behind a page that cannot be sent so each page is still looked at.
        gone = ((), 0)
        self.refuses(BadPage, 0, lots_along, link, (1,), page, (gone, gone, ((3,), 0)))

    def test_losses_go_by_name_only(self):
        link = Link(CELL, 0, 1, 1)
        page = ((0,), 0)
        self.assertRaises(TypeError, lot_behind, link, (0,), page, page, 1)
        self.assertRaises(TypeError, lots_along, link, (0,), page, (page,), 1)
        self.same(lot_behind(loss=None, then=page, page=page, lot=[0], link=link), (0,))
        self.same(lots_along(loss=None, pages=[page], page=page, lot=[0], link=link), ((0,),))


class LotsAlong(Case):
    def test_as_behind_each_page(self):
        chance = random.Random(38)
        gone = 0
        for link in SOME:
            pages = some_pages(link)
            for lot, loss in itertools.product(lots_of(link.machine), (0, 1, 2, 100, None)):
                page = chance.choice(pages)
                heard = [chance.choice(pages) for _ in range(4)]
                expected = []
                here, last = lot, page
                for then in heard:
                    here = tuple(sorted(led_on(link, here, last, loss).get(then, ()))) if here else ()
                    last = then
                    expected.append(here)
                gone += not here
                self.same(lots_along(link, lot, page, heard, loss=loss), tuple(expected))
                self.same(lots_along(link, list(lot), list(page), tuple(heard), loss=loss), tuple(expected))
        self.assertGreater(gone, 10)

    def test_by_all_runs(self):
        """All histories that leave a first page, and all rows behind them that leave the next ones."""
        for link in (Link(WORN, 0, 1, 2), Link(STAIRS, 0, 1, 1), Link(CELL, 0, 1, 1), Link(SWITCH, 0, 2, 2, 3),
                     Link(Machine([(1, 2, 0), (0, 2, 2)]), 0, 0, 2, 2)):
            for loss in (1, 2):
                self.runs(link, loss)

    def runs(self, link, loss):
        runs = {}
        for history in short_histories(link)[:400]:
            page = told_page(link, history)
            for one, other in itertools.product(rows_to(link.machine.deeds, loss), repeat=2):
                pages = (told_page(link, history + one), told_page(link, history + one + other))
                states = runs.setdefault((page, pages), [set(), set()])
                states[0].add(led(link.machine, link.first, history + one))
                states[1].add(led(link.machine, link.first, history + one + other))
        for (page, pages), states in runs.items():
            expected = tuple(tuple(sorted(those)) for those in states)
            self.same(lots_along(link, sent_states(link, page), page, pages, loss=loss), expected)

    def test_400_pages(self):
        link = Link(GREAT, 0, 12, 8, 9)
        row = (1, 2, 1, 1, 0, 3, 1) * 57
        pages = [page_of(link, row[:many]) for many in range(400)]
        lots = lots_along(link, (0,), pages[0], pages, loss=8)
        self.same(lots, tuple((led(GREAT, 0, row[:many]),) for many in range(400)))
        self.assertEqual(len(lots_along(link, tuple(range(8)), pages[0], pages)), 400)
        self.same(lots_along(link, tuple(range(8)), pages[0], ()), ())

    def test_from_the_first_on_that_cannot_be_sent(self):
        link = Link(WORN, 0, 1, 1)
        page, other = ((0,), 0), ((1,), 0)
        self.same(lots_along(link, (1,), page, (page, ((), 0), other, page)), ((1, 2), (), (), ()))

    def test_right_links_keep_lots_of_one_state(self):
        right = 0
        for link in LINKS:
            if is_right(link):
                right += 1
                for history in rows_of(link.machine.deeds, 3):
                    state, page = sight_of(link, history)
                    for loss, row in itertools.product(range(link.loss + 1), rows_to(link.machine.deeds, link.loss)):
                        lot = lot_behind(link, (state,), page, page_of(link, history + row), loss=loss)
                        self.assertLessEqual(len(lot), 1)
        self.assertGreater(right, 10)


if __name__ == "__main__":
    unittest.main()
