"""Marks that go round in a ring, and the stretches of it that tell the place."""

from pagesagain.bounds import LONGEST_PAGE, need_length
from pagesagain.checks import is_number, is_sequence, need_number
from pagesagain.errors import Refused, TooGreat
from pagesagain.powers import power

MOST_MARKS = 8
LONGEST_RING = 10000
LONGEST_FOUND = 64


def greatest_ring(marks, length):
    """How many marks the greatest ring has that is told by stretches of this length."""
    return power(_need_marks(marks), need_length(length))


def ring_holds(marks, length, value):
    """Whether any value is a ring of so many kinds of marks that is told by stretches of the length."""
    _need_marks(marks)
    need_length(length)
    return _is_ring(value, marks, length)


def ring_of(marks, length, size):
    """Some ring of just so many marks that is told by stretches of the length; None if there is none."""
    greatest = greatest_ring(marks, length)
    if _need_size(size) > greatest:
        return None
    if size > LONGEST_FOUND:
        raise TooGreat(LONGEST_FOUND)
    if size == 1:
        return (0,)
    # What shorter stretches tell longer ones tell, too; and the shorter they are, the sooner a ring is found.
    shortest = least_stretch(marks, size)
    zeros = (0,) * shortest
    return _ring_from(zeros, {zeros: True}, marks, shortest, size)


def least_marks(length, size):
    """The fewest kinds of marks of rings of this size told by stretches of the length; None if 8 are not enough."""
    need_length(length)
    _need_size(size)
    for marks in range(1, MOST_MARKS + 1):
        if power(marks, length) >= size:
            return marks
    return None


def least_stretch(marks, size):
    """The shortest stretches that tell rings of this size; None if stretches of 12 marks are not enough."""
    _need_marks(marks)
    _need_size(size)
    for length in range(LONGEST_PAGE + 1):
        if power(marks, length) >= size:
            return length
    return None


def marks_told(ring, length, number):
    """The stretch that stands beside a number: the one that ends at its place."""
    need_length(length)
    marks = _need_ring(ring, length)
    need_number(number, 0)
    return _stretches(marks, length)[number % len(marks)]


def place_told(ring, length, stretch):
    """The place at which a stretch ends; None if none does."""
    need_length(length)
    marks = _need_ring(ring, length)
    if not is_sequence(stretch, length, length) or not all([is_number(mark, 0) for mark in stretch]):
        raise Refused(stretch)
    asked = tuple(stretch)
    for place, told in enumerate(_stretches(marks, length)):
        if told == asked:
            return place
    return None


def _need_marks(value):
    """The number itself; Refused for any value that is no number of kinds of marks."""
    return need_number(value, 1, MOST_MARKS)


def _need_size(value):
    """The number itself; Refused for any value that is no number of marks in a ring."""
    return need_number(value, 1)


def _need_ring(value, length):
    """The ring as a tuple; Refused for any value that is none told by stretches of this length."""
    if not _is_ring(value, MOST_MARKS, length):
        raise Refused(value)
    return tuple(value)


def _is_ring(value, marks, length):
    """Whether any value is a ring, not too long, of so many kinds of marks, told by stretches of this length."""
    if not is_sequence(value, 1, LONGEST_RING) or not all([is_number(mark, 0, marks - 1) for mark in value]):
        return False
    return len(set(_stretches(value, length))) == len(value)


def _stretches(ring, length):
    """By place the stretch of this length that ends there."""
    size = len(ring)
    return [tuple([ring[at % size] for at in range(place + 1 - length, place + 1)]) for place in range(size)]


def _ring_from(row, told, marks, length, size):
    """The first ring of this size that begins with a row, whose stretches are told; None if there is none."""
    if len(row) == size:
        return row if _is_ring(row, marks, length) else None
    for mark in range(marks):
        longer = row + (mark,)
        stretch = longer[len(longer) - length:]
        if stretch not in told:
            told[stretch] = True
            ring = _ring_from(longer, told, marks, length, size)
            if ring is not None:
                return ring
            del told[stretch]
    return None
