"""[43] to [45]: senders, receivers, and what holds between them."""

import itertools
import random
import unittest

from pagesagain.court import is_right, least_length
from pagesagain.digests import colour_state, first_colouring
from pagesagain.errors import BadPage, NoDeed, Refused
from pagesagain.lots import lot_behind
from pagesagain.machines import Machine, led
from pagesagain.marks import least_stretch, place_told, ring_of
from pagesagain.pages import Link, page_of, sent_states
from pagesagain.turning import good_moduli
from pagesagain.wire import Receiver, Sender
from tests.helper import (ANY, GREAT, HOUR, LIFT, NO_INTEGERS, NO_SEQUENCES, ONE, STAIRS, SWITCH, WORN, Case, led_on,
                          machines_of, no_numbers, rows_of, rows_to, told_page)
from tests.test_court import LINKS
from tests.test_lots import BAD_PAGES, CELL, some_pages

SOME = LINKS[::9] + [Link(CELL, 0, 1, 1), Link(LIFT, 3, 2, 2, 2), Link(HOUR, 0, 0, 4, 3), Link(SWITCH, 1, 3, 2),
                     Link(ONE, 0, 1, 1), Link(STAIRS, 2, 2, 3), Link(WORN, 0, 2, 0)]
SWITCHES = [SWITCH, HOUR, Machine([(1, 0), (0, 1)]), Machine([(1, 2, 0), (1, 0, 2)]),
            Machine([(1, 2, 3, 3), (3, 0, 1, 2)])]


def sent(link, row):
    """A sender that did the deeds of a row."""
    sender = Sender(link)
    for deed in row:
        sender.do(deed)
    return sender


def attributes(receiver):
    return (receiver.link, receiver.lot, receiver.page, receiver.heard)


def hearings(row, loss):
    """All ways to hear pages behind some of the deeds of a row, no more than the losses between two: their places."""
    for heard in itertools.product((False, True), repeat=len(row)):
        places = [at + 1 for at in range(len(row)) if heard[at]]
        if all(then - here <= loss for here, then in itertools.pairwise([0] + places)):
            yield places


class Senders(Case):
    def test_by_an_own_walk(self):
        for link in SOME:
            for row in rows_of(link.machine.deeds, 5)[::7]:
                sender = Sender(link=link)
                state = link.first
                for at, deed in enumerate(row):
                    self.assertIs(sender.link, link)
                    self.same((sender.state, sender.done, sender.page), (state, at, told_page(link, row[:at])))
                    state = link.machine.tables[deed][state]
                    self.same(sender.do(deed), state)
                self.same((sender.state, sender.done, sender.page), (state, 5, told_page(link, row)))

    def test_at_first(self):
        sender = Sender(Link(WORN, 2, 3, 1, 4))
        self.same((sender.state, sender.done, sender.page), (2, 0, ((), 0)))
        self.same(sender.do(deed=1), 1)

    def test_many_deeds(self):
        link = Link(GREAT, 3, 12, 8, 9)
        sender = Sender(link)
        chance = random.Random(43)
        row = [chance.choice((0, 1, 1, 1, 2, 3)) for _ in range(10000)]
        for deed in row:
            state = sender.do(deed)
        for deed in row:
            link = Link(GREAT, GREAT.tables[deed][link.first], 12, 8, 9)
        self.same((state, sender.state, sender.done), (link.first, link.first, 10000))
        self.same(sender.page, (tuple(row[-12:]), 1))

    def test_wrong_deeds_change_nothing(self):
        for value in no_numbers(0, 1):
            sender = sent(Link(WORN, 0, 2, 1, 3), (0, 1))
            self.refuses(NoDeed, value, sender.do, value)
            self.refuses(NoDeed, value, sender.do, deed=value)
            self.same((sender.state, sender.done, sender.page), (0, 2, ((0, 1), 2)))

    def test_two_senders_are_two(self):
        link = Link(SWITCH, 0, 1, 1)
        one, other = Sender(link), Sender(link)
        one.do(0)
        self.same((one.state, other.state, one.done, other.done), (1, 0, 1, 0))


class Receivers(Case):
    def test_at_first(self):
        for link in SOME:
            receiver = Receiver(link)
            self.assertIs(receiver.link, link)
            self.same(attributes(receiver)[1:], ((link.first,), ((), 0), 0))
            self.same(receiver.sure(), link.first)
            self.same(attributes(Receiver(link, late=False))[1:], attributes(receiver)[1:])
            late = Receiver(late=True, link=link)
            self.assertIs(late.link, link)
            self.same((late.lot, late.page, late.heard, late.sure()), ((), None, 0, None))

    def test_each_page_that_is_heard(self):
        chance = random.Random(44)
        refused = 0
        for link, late, _ in itertools.product(SOME, (False, True), range(12)):
            receiver = Receiver(link, late=late)
            lot, page, heard = (set(), None, 0) if late else ({link.first}, ((), 0), 0)
            for _ in range(12):
                then = chance.choice(some_pages(link))
                if page is None:
                    left = led_on(link, (link.first,), ((), 0), None)[then]
                else:
                    left = led_on(link, lot, page, link.loss).get(then)
                if left:
                    lot, page, heard = left, then, heard + 1
                    value = chance.choice((then, [list(then[0]), then[1]]))
                    self.same(receiver.hear(value), tuple(sorted(left)))
                else:
                    refused += 1
                    value = [then[0], then[1]]
                    self.refuses(Refused, value, receiver.hear, value)
                self.same(attributes(receiver)[1:], (tuple(sorted(lot)), page, heard))
                self.same(receiver.sure(), min(lot) if len(lot) == 1 else None)
        self.assertGreater(refused, 50)

    def test_a_first_page_by_all_rows(self):
        for link in SOME:
            states = {}
            for row in rows_to(link.machine.deeds, link.loss):
                states.setdefault(told_page(link, row), set()).add(led(link.machine, link.first, row))
            for page in some_pages(link):
                if page in states:
                    self.same(Receiver(link).hear(page), tuple(sorted(states[page])))
                else:
                    self.refuses(Refused, page, Receiver(link).hear, page)
                late = Receiver(link, late=True)
                self.same(late.hear(page), sent_states(link, page))
                self.same(attributes(late)[1:], (sent_states(link, page), page, 1))

    def test_a_page_heard_twice(self):
        link = Link(SWITCH, 0, 1, 1)
        receiver = Receiver(link)
        page = page_of(link, (0,))
        self.same((receiver.hear(page), receiver.hear(page), receiver.hear(page)), ((1,), (0, 1), (0, 1)))
        self.same((receiver.sure(), receiver.heard, receiver.page), (None, 3, page))
        right = Receiver(Link(SWITCH, 0, 2, 1, 2))
        page = page_of(right.link, (0,))
        self.same((right.hear(page), right.hear(page), right.sure(), right.heard), ((1,), (1,), 1, 2))

    def test_strange_pages_change_nothing(self):
        link = Link(CELL, 0, 2, 1, 2)
        for late, row in itertools.product((False, True), ((), (0,), (1, 2))):
            receiver = Receiver(link, late=late)
            if row:
                for many in range(1, len(row) + 1):
                    receiver.hear(page_of(link, row[:many]))
            before = attributes(receiver)
            for fault, value in BAD_PAGES:
                self.refuses(BadPage, fault, receiver.hear, value)
                self.refuses(BadPage, fault, receiver.hear, page=value)
            if not late or row:
                gone = [[0, 1], len(row) % 2]
                self.refuses(Refused, gone, receiver.hear, gone)
            self.assertEqual(attributes(receiver), before)
            self.same(attributes(receiver)[1:], before[1:])

    def test_only_bools_tell_whether_it_is_late(self):
        link = Link(SWITCH, 0, 1, 1)
        for value in ANY + [0, 1, "True"]:
            if type(value) is not bool:
                self.refuses(Refused, value, Receiver, link, late=value)
        self.assertRaises(TypeError, Receiver, link, True)

    def test_many_pages(self):
        link = Link(GREAT, 0, 12, 8, 9)
        sender, receiver = Sender(link), Receiver(link)
        chance = random.Random(45)
        for _ in range(1000):
            for _ in range(chance.randrange(9)):
                sender.do(chance.choice((0, 1, 1, 1, 2, 3)))
            self.same(receiver.hear(sender.page), (sender.state,))
        self.same((receiver.heard, receiver.page), (1000, sender.page))

    def test_as_lot_behind(self):
        for link in SOME[::3]:
            for row in rows_of(link.machine.deeds, 4)[::3]:
                receiver = Receiver(link, late=True)
                receiver.hear(told_page(link, row[:2]))
                lot, page = receiver.lot, receiver.page
                for then in (told_page(link, row[:3]), told_page(link, row)):
                    left = lot_behind(link, lot, page, then, loss=link.loss)
                    if left:
                        self.same(receiver.hear(then), left)
                        lot, page = receiver.lot, receiver.page


class RightLinks(Case):
    """Over right links a receiver stands where the sender stood, however many pages are lost."""

    def stands(self, link, row):
        for places in hearings(row, link.loss):
            sender, receiver = Sender(link), Receiver(link)
            for at, deed in enumerate(row):
                sender.do(deed)
                if at + 1 in places:
                    self.same(receiver.hear(sender.page), (sender.state,))
                    self.same(receiver.sure(), sender.state)

    def test_right_ones(self):
        right = 0
        for link in LINKS:
            if is_right(link):
                right += 1
                for row in rows_of(link.machine.deeds, 5)[::3]:
                    self.stands(link, row)
        self.assertGreater(right, 30)

    def test_made_right_by_longer_pages(self):
        longer = 0
        for link in LINKS:
            least = least_length(link.machine, link.first, link.loss, link.modulus)
            if least is not None and not is_right(link):
                longer += 1
                self.assertGreater(least, link.length)
                right = Link(link.machine, link.first, least, link.loss, link.modulus)
                self.same(is_right(right), True)
                for row in rows_of(link.machine.deeds, least + 2)[::5]:
                    self.stands(right, row[-6:])
        self.assertGreater(longer, 10)

    def test_made_right_by_a_modulus(self):
        for machine, loss in itertools.product(SWITCHES, (1, 2, 3)):
            for modulus in good_moduli(machine, 0, loss):
                least = least_length(machine, 0, loss, modulus)
                right = Link(machine, 0, least, loss, modulus)
                self.same(is_right(right), True)
                for row in rows_of(machine.deeds, 5)[::7]:
                    self.stands(right, row)

    def test_made_right_by_colours(self):
        for machine, loss, length in itertools.product(SWITCHES + [LIFT], (1, 2, 3), (0, 1, 3)):
            link = Link(machine, 0, length, loss)
            colours = first_colouring(link)
            for row in rows_of(machine.deeds, 5)[::5]:
                for places in list(hearings(row, loss))[::3]:
                    sight = (0, ((), 0))
                    for place in places:
                        page, state = page_of(link, row[:place]), led(machine, 0, row[:place])
                        self.same(colour_state(link, colours, sight, page, colours[state]), state)
                        sight = (state, page)

    def test_made_right_by_marks_in_a_ring(self):
        for machine, loss in itertools.product(SWITCHES, (1, 2, 3, 4)):
            stretch = least_stretch(3, loss + 1)
            self.assertLessEqual(stretch, loss)
            for size in range(loss + 1, min(3 ** loss, loss + 8) + 1):
                self.marked(machine, loss, ring_of(3, loss, size))

    def marked(self, machine, loss, ring):
        """Pages of as many deeds and marks as the loss: the marks tell how many deeds were done since the last one."""
        for row in rows_of(machine.deeds, loss + 3)[::9]:
            marks = [ring[at % len(ring)] for at in range(len(row))]
            for places in list(hearings(row, loss))[::5]:
                state, last = 0, None
                for place in places:
                    deeds = row[max(0, place - loss):place]
                    if len(deeds) < loss:
                        state = led(machine, 0, deeds)
                        last = (place - 1) % len(ring)
                    else:
                        ends = place_told(ring, loss, marks[place - loss:place])
                        many = loss if last is None else (ends - last) % len(ring)
                        state = led(machine, state, deeds[len(deeds) - many:])
                        last = ends
                    self.same(state, led(machine, 0, row[:place]))


class OtherLinks(Case):
    def test_sure_of_what_every_receiver_can_be_sure_of(self):
        """Its lot is just the states behind all rows that send the pages that it heard."""
        for link in (Link(SWITCH, 0, 1, 2), Link(STAIRS, 0, 1, 2), Link(HOUR, 0, 0, 2, 2), Link(CELL, 0, 0, 1),
                     Link(Machine([(1, 2, 2), (0, 0, 1)]), 0, 1, 2)):
            self.assertFalse(is_right(link))
            heard = {}
            for gaps in itertools.product(range(link.loss + 1), repeat=3):
                for row in rows_of(link.machine.deeds, sum(gaps)):
                    places = list(itertools.accumulate(gaps))
                    pages = tuple(told_page(link, row[:place]) for place in places)
                    heard.setdefault(pages, set()).add(led(link.machine, link.first, row))
            for pages, states in heard.items():
                receiver = Receiver(link)
                for page in pages:
                    lot = receiver.hear(page)
                self.same(lot, tuple(sorted(states)))
                self.same(receiver.sure(), lot[0] if len(states) == 1 else None)

    def test_links_are_not_changed(self):
        link = Link(machines_of(2, 2)[5], 0, 1, 1)
        same = Link(machines_of(2, 2)[5], 0, 1, 1)
        sender, receiver = Sender(link), Receiver(link)
        receiver.hear((sender.page, sender.do(1))[0])
        self.assertTrue(link == same)
        for value in NO_SEQUENCES + NO_INTEGERS:
            self.assertFalse(sender == value or receiver == value)


if __name__ == "__main__":
    unittest.main()
