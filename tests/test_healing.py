"""[39] to [42]: the widest lot, how late ones heal, and rings of pages along which they never do."""

import inspect
import itertools
import unittest

from pagesagain.court import is_right
from pagesagain.errors import Refused, TooGreat
from pagesagain.healing import heal_holds, heal_pages, heal_paper, widest_lot
from pagesagain.machines import Machine, reached
from pagesagain.pages import Link
from tests.helper import (ANY, GREAT, HOUR, LIFT, NO_INTEGERS, NO_SEQUENCES, ONE, STAIRS, SWITCH, WORN, Case, led_on,
                          machines_of, next_page, no_numbers, rows_to, told_sights)
from tests.test_court import LINKS
from tests.test_lots import BAD_PAGES, CELL
from tests.test_sights import JUST

# Late ones heal over these, but not with the first page: behind 1, 2, 3, 1, 1, 2, 2, 3 and 3 more.
SLOW = [Link(Machine(tables), 0, length, loss, modulus) for tables, length, loss, modulus in (
    ([(1, 1)], 0, 1, 2), ([(1, 2, 2)], 0, 1, 2), ([(2, 1, 3, 1)], 0, 1, 2),
    ([(1, 1, 3, 1), (1, 2, 2, 2)], 2, 1, 1), ([(0, 0, 1), (0, 0, 1), (2, 2, 2)], 1, 1, 2),
    ([(3, 2, 2, 2), (1, 1, 1, 2)], 1, 1, 2), ([(3, 1, 1, 2), (1, 3, 3, 3)], 1, 1, 2),
    ([(1, 2, 3, 3)], 0, 2, 3), ([(3, 2, 2, 2), (3, 2, 2, 1)], 0, 3, 4))]
SOME = (LINKS[::4] + [Link(CELL, 0, 1, 1), Link(CELL, 0, 1, 2), Link(CELL, 0, 0, 2, 2), Link(LIFT, 0, 2, 2, 2),
                       Link(HOUR, 0, 0, 2, 3), Link(SWITCH, 1, 3, 2), Link(ONE, 0, 1, 1), Link(STAIRS, 2, 1, 3),
                       Link(SWITCH, 0, 1, 3, 3), Link(LIFT, 0, 1, 2, 3), Link(WORN, 0, 1, 1, 3),
                       Link(Machine([(1, 2, 3, 4, 5, 0)]), 0, 1, 2, 3),
                       Link(Machine([(1, 2, 3, 0), (1, 2, 3, 1)]), 0, 1, 1, 4),
                       # Over these only pages of some numbers leave late ones unsure.
                       Link(Machine([(2, 1, 1), (1, 1, 2)]), 0, 2, 1, 3),
                       Link(Machine([(3, 1, 1, 2), (3, 2, 3, 1)]), 0, 1, 2, 3)] + SLOW)


def widest(link, loss):
    """By all lots and pages that receivers come to: the most states of one, and how many pairs there are."""
    met = set()
    waiting = [(frozenset((link.first,)), ((), 0))]
    while waiting:
        lot, page = waiting.pop()
        for then, states in led_on(link, lot, page, loss).items():
            pair = (frozenset(states), then)
            if pair not in met:
                met.add(pair)
                waiting.append(pair)
    return max(len(lot) for lot, _ in met), len(met - {(frozenset((link.first,)), ((), 0))})


def later_pages(link, page):
    """The pages behind rows of one to as many deeds as can be lost."""
    pages = set()
    here = {page}
    for _ in range(link.loss):
        here = {next_page(link, told, deed) for told in here for deed in range(link.machine.deeds)}
        pages |= here
    return pages


def unsure_pairs(link):
    """By pair of a lot of several states and a page to which late ones come before they are sure, the next ones."""
    late = led_on(link, (link.first,), ((), 0), None)
    waiting = [(frozenset(states), page) for page, states in late.items() if len(states) > 1]
    behind = {}
    while waiting:
        lot, page = waiting.pop()
        if (lot, page) not in behind:
            lots = led_on(link, lot, page, link.loss)
            nexts = [(frozenset(lots[then]), then) for then in later_pages(link, page)]
            behind[lot, page] = [pair for pair in nexts if len(pair[0]) > 1]
            waiting.extend(behind[lot, page])
    return behind


def pages_until_sure(behind):
    """Going backwards: how often the pairs must be left that lead to none of the pairs that are still there."""
    many = 0
    while behind:
        left = {pair: nexts for pair, nexts in behind.items() if any(then in behind for then in nexts)}
        if len(left) == len(behind):
            return None
        behind = left
        many += 1
    return many


class WidestLot(Case):
    def test_by_all_lots_and_pages(self):
        met = set()
        for link in SOME:
            for loss in range(4 if link.machine.deeds == 1 else 3):
                most, pairs = widest(link, loss)
                met.add(most)
                self.same(widest_lot(link, loss), most)
                self.same(widest_lot(loss=loss, link=link, most=20000), most)
                for bound in (1, 2, pairs - 1, pairs, pairs + 1):
                    if bound > 0:
                        self.searched(most, pairs, bound, widest_lot, link, loss)
        self.assertEqual(met, {1, 2, 3, 4})

    def test_one_exactly_where_the_link_with_this_loss_is_right(self):
        right = 0
        for link in LINKS:
            for loss in range(4):
                other = Link(link.machine, link.first, link.length, loss, link.modulus)
                right += is_right(other)
                self.assertEqual(widest_lot(link, loss) == 1, is_right(other))
        self.assertTrue(0 < right < 4 * len(LINKS))

    def test_greater_ones(self):
        turn = Machine([(1, 2, 3, 4, 5, 6, 7, 0)])
        self.same([widest_lot(Link(turn, 0, 12, 0), loss) for loss in range(9)], [1] + [8] * 8)
        self.same([widest_lot(Link(turn, 5, 12, 0, 4), loss) for loss in range(9)], [1] * 4 + [2] * 5)
        # At most 8 states, 4 deeds, 6 deeds told, 4 lost.
        self.same(widest_lot(Link(Machine([tuple(range(8))] * 4), 3, 4, 8), 4, most=20000), 1)
        for most in (1, 4000, 20000):
            self.searched(8, 10 ** 9, most, widest_lot, Link(GREAT, 0, 6, 4), 4)

    def test_great_searches_end(self):
        for most in (1, 4000):
            self.refuses(TooGreat, most, widest_lot, Link(GREAT, 0, 6, 4, 9), 4, most=most)
        link = Link(GREAT, 0, 4, 4)
        for call in (heal_pages, heal_paper):
            self.refuses(TooGreat, 1, call, link, most=1)
        for call in (widest_lot, heal_pages, heal_paper):
            self.same(inspect.signature(call).parameters["most"].default, 4000)

    def test_wrong_losses(self):
        for value in no_numbers(0, 8):
            self.refuses(Refused, value, widest_lot, Link(GREAT, 0, 12, 8, 9), value, most=1)
            self.refuses(Refused, value, widest_lot, loss=value, link=SOME[0])
        self.assertRaises(TypeError, widest_lot, SOME[0], 1, 4000)


class HealPages(Case):
    def test_by_going_backwards(self):
        met = set()
        for link in SOME:
            if link.loss > 0:
                behind = unsure_pairs(link)
                expected = pages_until_sure(behind)
                met.add(expected)
                self.same(heal_pages(link), expected)
                self.same(heal_pages(link=link, most=20000), expected)
                for most in (1, 2, len(behind) - 1, len(behind), len(behind) + 1):
                    if most > 0:
                        self.searched(expected, len(behind), most, heal_pages, link)
                self.ring(link, expected, len(behind))
        self.assertLessEqual({None, 0, 1, 2, 3}, met)
        self.same([heal_pages(link) for link in SLOW], [1, 2, 3, 1, 1, 2, 2, 3, 3])

    def ring(self, link, expected, pairs):
        """A ring is told exactly where there is no such number, and it holds."""
        paper = heal_paper(link)
        self.same(heal_paper(most=20000, link=link), paper)
        self.assertEqual(paper is None, expected is not None)
        if paper is not None:
            self.shows(link, paper)
        for most in (1, 2, pairs - 1, pairs):
            if most > 0:
                try:
                    self.same(heal_paper(link, most=most), paper)
                except TooGreat as error:
                    self.same(error.most, most)
                    self.assertGreater(pairs, most)

    def shows(self, link, paper):
        word, page, rows, again = paper
        self.assertEqual(word, "ring")
        self.same(paper, ("ring", (tuple(page[0]), page[1]), tuple(tuple(row) for row in rows), again))
        self.assertTrue(0 <= again < len(rows))
        lot = frozenset(led_on(link, (link.first,), ((), 0), None)[page])
        pairs = [(lot, page)]
        for row in rows:
            self.assertTrue(1 <= len(row) <= link.loss)
            then = page
            for deed in row:
                then = next_page(link, then, deed)
            lot = frozenset(led_on(link, lot, page, link.loss)[then])
            page = then
            pairs.append((lot, page))
        self.assertTrue(all(len(lot) > 1 for lot, _ in pairs))
        self.assertEqual(pairs[-1], pairs[again])
        # No lot with its page comes twice ahead of that.
        self.assertEqual(len(set(pairs)), len(rows))
        self.same(heal_holds(link, paper), True)
        self.same(heal_holds(value=[word, list(paper[1]), [list(row) for row in rows], again], link=link), True)

    def test_many_links(self):
        told = {None: 0}
        for link in LINKS[::2] + [Link(machine, 0, length, loss) for machine in machines_of(3, 2)[::23]
                                  for length, loss in ((1, 1), (2, 1), (1, 2))]:
            if link.loss > 0:
                behind = unsure_pairs(link)
                many = pages_until_sure(behind)
                told[many] = told.get(many, 0) + 1
                self.same(heal_pages(link), many)
                self.ring(link, many, len(behind))
        self.assertTrue(told[None] > 50 and told[0] > 20)

    def test_rings_over_greater_links(self):
        turn = Machine([(1, 2, 3, 4, 5, 6, 7, 0)])
        for link in (Link(turn, 0, 12, 8), Link(turn, 3, 6, 4, 6), Link(LIFT, 0, 6, 3), Link(GREAT, 0, 2, 2, 3),
                     Link(GREAT, 1, 3, 4), Link(WORN, 0, 6, 4, 2)):
            paper = heal_paper(link)
            self.same(heal_pages(link), None)
            self.shows(link, paper)

    def test_all_pages_are_sure(self):
        for link in (Link(Machine([(0, 0), (1, 1)]), 0, 1, 1), Link(ONE, 0, 0, 8), Link(SWITCH, 0, 0, 1, 2)):
            self.same((heal_pages(link), heal_paper(link)), (0, None))
            self.same((heal_pages(link, most=1), heal_paper(link, most=1)), (0, None))

    def test_a_loss_of_0_then_too_many_sights(self):
        for length, modulus in ((0, 1), (12, 9)):
            for machine in (GREAT, SWITCH):
                link = Link(machine, 0, length, 0, modulus)
                for call in (heal_pages, heal_paper):
                    self.refuses(Refused, link, call, link)
                    self.refuses(Refused, link, call, link=link, most=1)
        for many, link in JUST:
            for call, most in itertools.product((heal_pages, heal_paper), (1, 4000, 20000)):
                if many > 4000:
                    self.refuses(TooGreat, 4000, call, link, most=most)
        self.refuses(TooGreat, 4000, heal_pages, Link(GREAT, 0, 12, 8, 9), most=1)
        link = Link(Machine([(1, 0), (1, 0)]), 0, 12, 1)
        self.refuses(TooGreat, 4000, heal_paper, link, most=20000)
        self.assertRaises(TypeError, heal_pages, SOME[-1], 4000)
        self.assertRaises(TypeError, heal_paper, SOME[-1], 4000)

    def test_just_as_many_sights(self):
        link = JUST[1][1]
        self.assertEqual(len(told_sights(link)), 4000)
        paper = heal_paper(link, most=20000)
        self.assertEqual(heal_pages(link, most=20000) is None, paper is not None)
        if paper is not None:
            self.shows(link, paper)

    def test_on_right_links_whoever_is_sure_stays_so(self):
        right = 0
        for link in LINKS[::3]:
            if link.loss > 0 and is_right(link):
                right += 1
                for page, states in led_on(link, (link.first,), ((), 0), None).items():
                    for state in states:
                        lots = led_on(link, (state,), page, link.loss)
                        self.assertTrue(all(len(lot) == 1 for lot in lots.values()))
        self.assertGreater(right, 5)


class HealHolds(Case):
    def holds(self, link, page, rows, again):
        """As the document tells it, for a page and rows."""
        lot = frozenset(led_on(link, (link.first,), ((), 0), None)[page])
        pairs = [(lot, page)]
        for row in rows:
            then = page
            for deed in row:
                then = next_page(link, then, deed)
            lot = frozenset(led_on(link, lot, page, link.loss).get(then, ()))
            page = then
            pairs.append((lot, page))
        return (again < len(rows) and all(len(lot) > 1 for lot, _ in pairs) and pairs[-1] == pairs[again]
                and all(1 <= len(row) <= link.loss for row in rows))

    def test_all_short_rings(self):
        for link in (Link(CELL, 0, 1, 1), Link(STAIRS, 0, 1, 2), Link(SWITCH, 0, 2, 2), Link(SWITCH, 0, 1, 3, 3)):
            held = 0
            pages = sorted(led_on(link, (link.first,), ((), 0), None))
            rows = rows_to(link.machine.deeds, link.loss + 1)
            for page, many in itertools.product(pages, range(3)):
                for done in itertools.product(rows, repeat=many):
                    for again in range(many + 1):
                        holds = self.holds(link, page, done, again)
                        held += holds
                        self.same(heal_holds(link, ("ring", page, done, again)), holds)
            self.assertGreater(held, 2)

    def test_longer_rings(self):
        link = Link(CELL, 0, 1, 1)
        page = ((2,), 0)
        self.same([heal_holds(link, ["ring", page, [(2,)] * many, 0]) for many in (1, 2, 100, 300)], [True] * 4)
        self.same([heal_holds(link, ["ring", page, [(2,)] * 100, again]) for again in (1, 99, 100)],
                  [True, True, False])
        self.same(heal_holds(link, ["ring", page, [(2,)] * 50 + [(1,)] + [(2,)] * 49, 0]), False)
        self.same(heal_holds(link, ["ring", page, [(2,)] * 99 + [(1,)], 0]), False)
        # It comes back behind a page that tells the state, so that it is sure on the way.
        self.same(heal_holds(link, ["ring", page, [(1,), (2,)], 0]), False)
        # It begins with a page that tells the state.
        self.same(heal_holds(link, ["ring", ((1,), 0), [(2,), (2,)], 1]), False)

    def test_values_of_any_kind(self):
        link = Link(Machine([(0, 0), (1, 1), (0, 1)]), 0, 2, 1, 2)
        page, rows = ((2, 2), 0), ((2,), (2,))
        self.same(heal_holds(link, ("ring", page, rows, 0)), True)
        paper = ("ring", page, rows, 0)
        bent = ANY + [paper[:3], paper + (0,), paper[1:], (paper,), ("ring",) + paper]
        bent += [(word, page, rows, 0) for word in ANY + ["ring ", "rings", "RING", "", "round", ["ring"]]]
        bent += [("ring", value, rows, 0) for _, value in BAD_PAGES if value not in (((2, 2), 0), ((2, 2), 1))]
        bent += [("ring", value, rows, 0) for value in NO_INTEGERS + [page + (0,), ((2, 2), 2), ((2, 2, 2), 0)]]
        wrong = NO_SEQUENCES + [[], (), (2,), [2], [[]], [[2], []], [[2, 2]], [[3]], [[True]], [[-1]], [["2"]], [[[2]]]]
        bent += [("ring", page, value, 0) for value in wrong]
        bent += [("ring", page, (value, (2,)), 0) for value in NO_SEQUENCES + [(), (3,), (2, 2), (None,), ((2,),)]]
        bent += [("ring", page, rows, value) for value in NO_INTEGERS + [-1, 1, 2, 3, 10 ** 30, -10 ** 30]]
        for value in bent:
            self.same(heal_holds(link, value), False)
            self.same(heal_holds(link=link, value=list(value) if type(value) is tuple else value), False)

    def test_neither_refused_nor_too_great(self):
        link = Link(SWITCH, 0, 0, 0)
        for value in (("ring", ((), 0), [(0,)], 0), ("ring", ((), 0), [()], 0), ("ring", ((), 0), [], 0), None):
            self.same(heal_holds(link, value), False)
        link = Link(Machine([(1, 0), (1, 0)]), 0, 12, 1)
        self.same(heal_holds(link, ("ring", ((0,) * 12, 0), [(0,)], 0)), True)
        self.same(heal_holds(link, ("ring", ((0,) * 11, 0), [(0,)], 0)), False)
        self.same(heal_holds(link, ("ring", ((0,) * 12, 0), [(1,)], 0)), False)
        self.same(heal_holds(Link(GREAT, 0, 12, 8, 9), ("ring", ((0,) * 12, 0), [(0,) * 8], 0)), False)

    def test_widest_lots_do_not_heal(self):
        for machine in (HOUR, SWITCH, LIFT):
            link = Link(machine, 0, 2, 1)
            self.same(widest_lot(link, 1), len(reached(machine, 0)) if machine is not LIFT else widest(link, 1)[0])
            self.same(heal_pages(link), None)


if __name__ == "__main__":
    unittest.main()
