"""What several tests need: values that are none of what is asked for, rows, machines, and checks of errors."""

import itertools
import unittest

from pagesagain.errors import BadMachine, BadPage, BadRow, BadText, NoDeed, NoState, PageError, Refused, TooGreat
from pagesagain.machines import Machine, led, reached
from pagesagain.pages import Link

KEPT = {BadMachine: "at", BadRow: "at", BadPage: "at", BadText: "at", Refused: "at", TooGreat: "most",
        NoState: "state", NoDeed: "deed"}

WORN = Machine([(1, 2, 2), (0, 0, 1)])
ONE = Machine([(0,)])
SWITCH = Machine([(1, 0)])
STAIRS = Machine([(1, 2, 2), (0, 1, 2)])
HOUR = Machine([(1, 2, 0)])
LIFT = Machine([(0, 0, 1, 2), (1, 2, 3, 3)])
GREAT = Machine([tuple(range(8)), (1, 2, 3, 4, 5, 6, 7, 0), (0,) * 8, (7,) * 8])


def nested(kind, deep):
    value = kind()
    for _ in range(deep - 1):
        value = kind([value])
    return value


OBJECTS = [Machine([(0,)]), Link(Machine([(1, 0)]), 1, 2, 3), PageError("x"), Refused(0), NoState(0), BadRow(at=[])]
NO_SEQUENCES = [True, False, None, "", "0", "01", 0, 1, 2, -1, 10 ** 30] + OBJECTS
NO_INTEGERS = [True, False, None, "", "0", "1", "ab", [], (), [0], (1,), [[]], ((0,), 0), [None, [True]],
               nested(list, 40), nested(tuple, 40)] + OBJECTS


def no_numbers(least, greatest):
    """Values that are no number from the least to the greatest one."""
    return NO_INTEGERS + [least - 1, greatest + 1, -1 - greatest, -10 ** 30, 10 ** 30]


def no_numbers_from(least):
    """Values that are no number from the least one on."""
    return NO_INTEGERS + [least - 1, -1 - least, -10 ** 30]


ANY = NO_INTEGERS + NO_SEQUENCES
NO_ROWS = NO_SEQUENCES + [[4], (-1,), [True], (0, None), [[0]], ("0",), [0, 0, False], (10 ** 30,)]


def bent(paper):
    """Values of any kind, and the paper with an item too few, too many, or one of another kind."""
    yield from ANY
    for change in (paper[:-1], paper[1:], paper + ((),), paper + (None,), (paper,), paper[:1] + paper):
        yield change
        yield list(change)
    for word in ANY + ["", paper[0] + "s", paper[0].upper(), [paper[0]], "other"]:
        yield (word,) + paper[1:]
    for at in range(1, len(paper)):
        for value in NO_ROWS:
            yield paper[:at] + (value,) + paper[at + 1:]


def rows_of(deeds, many):
    """All rows of so many deeds."""
    return list(itertools.product(range(deeds), repeat=many))


def rows_to(deeds, longest):
    """All rows of at most so many deeds."""
    return [row for many in range(longest + 1) for row in rows_of(deeds, many)]


def machines_of(states, deeds):
    """All machines of so many states and deeds."""
    tables = list(itertools.product(range(states), repeat=states))
    return [Machine(chosen) for chosen in itertools.product(tables, repeat=deeds)]


def told_page(link, row):
    """The page as the document tells it, deed by deed."""
    deeds = [row[at] for at in range(len(row)) if at >= len(row) - link.length]
    number = len(row)
    while number >= link.modulus:
        number -= link.modulus
    return (tuple(deeds), number)


def told_sight(link, row):
    return (led(link.machine, link.first, row), told_page(link, row))


def short_histories(link):
    """Enough of them for all sights: each state with each number is reached ahead of the deeds that are told."""
    return rows_to(link.machine.deeds, link.length + link.machine.states * link.modulus - 1)


def told_sights(link):
    """By sight the first row that leaves it, by rows that grow deed by deed."""
    found = {told_sight(link, ()): ()}
    rows = [()]
    while rows:
        longer = [row + (deed,) for row in rows for deed in range(link.machine.deeds)]
        rows = []
        for row in longer:
            if told_sight(link, row) not in found:
                found[told_sight(link, row)] = row
                rows.append(row)
    return found


def told_open_by_number(link):
    """By number the pairs of states that pages with it leave open behind the sights that come, by all rows lost."""
    pairs = [set() for _ in range(link.modulus)]
    lost = rows_to(link.machine.deeds, link.loss)
    for sight, history in told_sights(link).items():
        states = {}
        for row in lost:
            states.setdefault(told_page(link, history + row), set()).add(led(link.machine, sight[0], row))
        for page, those in states.items():
            pairs[page[1]].update(itertools.combinations(sorted(those), 2))
    return pairs


def told_open(link):
    """The pairs of states that any pages leave open."""
    return tuple(sorted(set().union(*told_open_by_number(link))))


def told_colouring(states, pairs):
    """The least tuple with the fewest colours: all tuples tried in their order."""
    for many in range(1, states + 1):
        for colours in itertools.product(range(many), repeat=states):
            if all(colours[one] != colours[other] for one, other in pairs):
                return colours
    return None


def next_page(link, page, deed):
    """The page one deed behind a page."""
    deeds = page[0] + (deed,)
    return (deeds[1:] if len(deeds) > link.length else deeds, 0 if page[1] + 1 == link.modulus else page[1] + 1)


def led_on(link, lot, page, loss):
    """By page sent at most so many deeds behind one, any number for None, the states of a lot led on, as a set."""
    here = {(state, page) for state in lot}
    met = set(here)
    many = 0
    while here and many != loss:
        here = {(table[state], next_page(link, told, deed)) for state, told in here
                for deed, table in enumerate(link.machine.tables)} - met
        met |= here
        many += 1
    lots = {}
    for state, told in met:
        lots.setdefault(told, set()).add(state)
    return lots


def turns_round(machine, state, row):
    """Whether the row leads the state elsewhere but, again and again, back."""
    there = led(machine, state, row)
    if there == state:
        return False
    for _ in range(machine.states):
        there = led(machine, there, row)
        if there == state:
            return True
    return False


def turns_some(machine, first, row):
    """Whether the row leads round some state to which rows lead the first one."""
    return any(turns_round(machine, state, row) for state in reached(machine, first))


class Case(unittest.TestCase):
    def same(self, told, expected):
        """Equal, and of the same kinds within: no list for a tuple, no bool for an integer."""
        self.assertEqual(repr(told), repr(expected))

    def refuses(self, error, kept, call, *args, **named):
        """That just this error is raised, and keeps just this."""
        with self.assertRaises(error) as caught:
            call(*args, **named)
        self.assertIs(type(caught.exception), error)
        told = getattr(caught.exception, KEPT[error])
        if type(kept) is int:
            self.same(told, kept)
        else:
            self.assertIs(told, kept)

    def searched(self, expected, things, most, call, *args, **named):
        """That this is the answer, or TooGreat of the bound, if there are more of the things to look at."""
        try:
            told = call(*args, most=most, **named)
        except TooGreat as error:
            self.same(error.most, most)
            self.assertGreater(things, most)
        else:
            self.same(told, expected)
