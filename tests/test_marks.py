"""[32] to [34]: rings of marks, how many marks they need, and the stretches beside numbers."""

import itertools
import unittest

from pagesagain.errors import Refused, TooGreat
from pagesagain.marks import greatest_ring, least_marks, least_stretch, marks_told, place_told, ring_holds, ring_of
from tests.helper import ANY, NO_INTEGERS, NO_SEQUENCES, Case, no_numbers, no_numbers_from

# Blocks of a mark 7 and four others, each block once: a stretch of nine marks or more holds a whole block.
BLOCKS = [mark for block in itertools.product(range(7), repeat=4) for mark in (7,) + block]


def told_stretch(ring, length, place):
    """The stretch that ends at the place, mark by mark backwards."""
    marks = []
    for _ in range(length):
        marks.insert(0, ring[place])
        place = place - 1 if place > 0 else len(ring) - 1
    return tuple(marks)


def is_told(ring, length):
    return len({told_stretch(ring, length, place) for place in range(len(ring))}) == len(ring)


def all_rings(marks, size):
    return list(itertools.product(range(marks), repeat=size))


def no_rings(length):
    """Values that are no ring of marks below 8 told by stretches of the length, which is below 9."""
    wrong = [value for value in NO_INTEGERS if not isinstance(value, (list, tuple))] + [8, -1, 10 ** 30, [0], ()]
    rings = [change for value in wrong for change in ([value], [0, value], (value, 0))]
    return NO_SEQUENCES + [[], (), [0, 0], (3, 4, 3, 4), [5] * 10000, BLOCKS[:10001], (0,) * 10001] + rings


class GreatestRing(Case):
    def test_by_all_stretches(self):
        for marks, length in itertools.product(range(1, 6), range(5)):
            self.same(greatest_ring(marks, length), len(all_rings(marks, length)))
            self.same(greatest_ring(length=length, marks=marks), len(all_rings(marks, length)))
        self.same((greatest_ring(8, 12), greatest_ring(1, 12), greatest_ring(7, 0)), (68719476736, 1, 1))

    def test_no_greater_ring_is_told(self):
        for marks, length in ((1, 3), (2, 0), (2, 1), (2, 2), (3, 1), (2, 3)):
            greatest = greatest_ring(marks, length)
            self.assertTrue(any(is_told(ring, length) for ring in all_rings(marks, greatest)))
            self.assertFalse(any(is_told(ring, length) for ring in all_rings(marks, greatest + 1)))

    def test_wrong_arguments(self):
        for value in no_numbers(1, 8):
            self.refuses(Refused, value, greatest_ring, value, 13)
            self.refuses(Refused, value, ring_of, value, 13, 0)
            self.refuses(Refused, value, ring_holds, value, 13, None)
            self.refuses(Refused, value, least_stretch, value, 0)
        for value in no_numbers(0, 12):
            self.refuses(Refused, value, greatest_ring, 8, value)
            self.refuses(Refused, value, ring_of, 8, value, 0)
            self.refuses(Refused, value, ring_holds, 1, value, None)
            self.refuses(Refused, value, least_marks, value, 0)
            self.refuses(Refused, value, ring_holds, marks=1, length=value, value=(0,))
        for value in no_numbers_from(1):
            self.refuses(Refused, value, ring_of, 1, 0, value)
            self.refuses(Refused, value, ring_of, marks=8, length=12, size=value)
            self.refuses(Refused, value, least_marks, 12, value)
            self.refuses(Refused, value, least_stretch, 1, value)
            self.refuses(Refused, value, least_stretch, marks=8, size=value)
            self.refuses(Refused, value, least_marks, length=0, size=value)


class RingOf(Case):
    def test_a_ring_for_each_size_up_to_the_greatest_one(self):
        for marks, length in itertools.product(range(1, 9), (0, 1, 2, 3, 4, 5, 6, 12)):
            for size in range(1, 65):
                ring = ring_of(marks, length, size)
                self.same(ring_of(size=size, length=length, marks=marks), ring)
                if size > greatest_ring(marks, length):
                    self.same(ring, None)
                else:
                    self.assertTrue(type(ring) is tuple and len(ring) == size)
                    self.assertTrue(all(type(mark) is int and 0 <= mark < marks for mark in ring))
                    self.assertTrue(is_told(ring, length))

    def test_small_ones_by_all_rings(self):
        for marks, length, size in itertools.product((1, 2, 3), range(4), range(1, 8)):
            some = any(is_told(ring, length) for ring in all_rings(marks, size))
            self.assertEqual(ring_of(marks, length, size) is not None, some)

    def test_above_64(self):
        for marks, length in itertools.product(range(1, 9), range(10)):
            greatest = greatest_ring(marks, length)
            for size in (65, 66, 1000, greatest - 1, greatest):
                if 64 < size <= greatest:
                    self.refuses(TooGreat, 64, ring_of, marks, length, size)
            for size in (65, greatest + 1, 10 ** 30):
                if size > greatest:
                    self.same(ring_of(marks, length, size), None)
        self.refuses(TooGreat, 64, ring_of, 8, 12, 65)


class RingHolds(Case):
    def test_all_small_ones(self):
        held = 0
        for marks, length, size in itertools.product((1, 2, 3), range(4), range(1, 7)):
            for ring in all_rings(3, size):
                holds = max(ring) < marks and is_told(ring, length)
                held += holds
                self.same(ring_holds(marks, length, ring), holds)
                if holds:
                    self.same(ring_holds(value=list(ring), length=length, marks=marks), True)
        self.assertGreater(held, 500)

    def test_stretches_longer_than_the_ring(self):
        self.same([ring_holds(2, length, (0, 1)) for length in (0, 1, 2, 5, 12)], [False] + [True] * 4)
        self.same([ring_holds(2, length, (0, 0, 1)) for length in (1, 2, 11, 12)], [False] + [True] * 3)
        self.same([ring_holds(2, 12, ring) for ring in ((0, 0), (0, 1, 0, 1), (0, 0, 1) * 2)], [False] * 3)
        self.same([ring_holds(1, length, [0]) for length in (0, 1, 12)], [True] * 3)

    def test_values_of_any_kind(self):
        for value in no_rings(2) + ANY:
            if value not in ([0], (0,), (1,)):
                self.same(ring_holds(8, 2, value), False)
        for marks in range(1, 9):
            self.same(ring_holds(marks, 3, [marks - 1]), True)
            self.same(ring_holds(marks, 3, [marks]), False)

    def test_long_rings(self):
        self.assertTrue(is_told(BLOCKS[:10000], 9) and is_told(BLOCKS[:10005], 9) and is_told(BLOCKS[:9999], 9))
        self.same([ring_holds(8, 9, BLOCKS[:size]) for size in (9999, 10000, 10001, 10005)],
                  [True, True, False, False])
        self.same(ring_holds(8, 12, tuple(BLOCKS[:10000])), True)
        self.same((ring_holds(7, 12, BLOCKS[:10000]), ring_holds(8, 4, BLOCKS[:10000])), (False, False))
        self.same(ring_holds(8, 12, [0] * 100000), False)


class FewestMarks(Case):
    def test_one_fewer_is_not_enough(self):
        for length, size in itertools.product(range(13), list(range(1, 70)) + [4095, 4096, 4097, 10 ** 9, 10 ** 12]):
            marks = least_marks(length, size)
            self.same(least_marks(size=size, length=length), marks)
            self.same(marks, next((many for many in range(1, 9) if many ** length >= size), None))

    def test_shortest_stretches(self):
        for marks, size in itertools.product(range(1, 9), list(range(1, 70)) + [4095, 4096, 4097, 10 ** 9, 10 ** 12]):
            length = least_stretch(marks, size)
            self.same(least_stretch(size=size, marks=marks), length)
            self.same(length, next((many for many in range(13) if marks ** many >= size), None))

    def test_there_is_such_a_ring_and_none_of_fewer(self):
        for size in range(1, 65):
            for length in range(7):
                marks = least_marks(length, size)
                if marks is not None:
                    self.assertEqual(len(ring_of(marks, length, size)), size)
                if marks is None or marks > 1:
                    self.same(ring_of(8 if marks is None else marks - 1, length, size), None)
            for marks in range(1, 9):
                length = least_stretch(marks, size)
                if length is not None:
                    self.assertEqual(len(ring_of(marks, length, size)), size)
                if length is None or length > 0:
                    self.same(ring_of(marks, 12 if length is None else length - 1, size), None)

    def test_not_enough(self):
        self.same((least_marks(0, 1), least_marks(0, 2), least_marks(1, 8), least_marks(1, 9)), (1, None, 8, None))
        self.same((least_marks(12, 8 ** 12), least_marks(12, 8 ** 12 + 1), least_marks(12, 10 ** 12)), (8, None, None))
        self.same((least_stretch(1, 1), least_stretch(1, 2), least_stretch(2, 4096), least_stretch(2, 4097)),
                  (0, None, 12, None))
        self.same((least_stretch(8, 8 ** 12), least_stretch(8, 8 ** 12 + 1), least_stretch(8, 10 ** 12)),
                  (12, None, None))


class Stretches(Case):
    RINGS = [(0,), (7,), (0, 1), (1, 1, 0), (0, 1, 2, 3, 4, 5, 6, 7), (0, 0, 1, 0, 1, 1)]

    def test_beside_each_number(self):
        for ring in self.RINGS:
            for length in range(13):
                if is_told(ring, length):
                    for number in list(range(3 * len(ring))) + [10 ** 30, 10 ** 30 + 1]:
                        place = number % len(ring)
                        stretch = told_stretch(ring, length, place)
                        self.same(marks_told(ring, length, number), stretch)
                        self.same(marks_told(ring=list(ring), number=number, length=length), stretch)
                        self.same(place_told(ring, length, stretch), place)
                        self.same(place_told(stretch=list(stretch), ring=list(ring), length=length), place)

    def test_stretches_that_are_none(self):
        for ring, length in (((1, 1, 0), 2), ((0, 1, 2, 3, 4, 5, 6, 7), 1), ((0, 0, 1, 0, 1, 1), 4), ((7,), 0)):
            places = {told_stretch(ring, length, place): place for place in range(len(ring))}
            for stretch in itertools.product((0, 1, 5, 7, 8, 10 ** 30), repeat=length):
                self.same(place_told(ring, length, stretch), places.get(stretch))

    def test_with_pages_of_as_many_deeds(self):
        # Going round beside the deeds the last marks tell what the number of deeds tells.
        for size in range(1, 10):
            ring = ring_of(2, 4, size)
            for many in range(4, 40):
                marks = tuple(ring[at % size] for at in range(many - 4, many))
                self.same(place_told(ring, 4, marks), (many - 1) % size)
                self.same(marks_told(ring, 4, many - 1), marks)

    def test_long_rings(self):
        ring = tuple(BLOCKS[:10000])
        for place in (0, 8, 4567, 9999):
            stretch = told_stretch(ring, 12, place)
            self.same(marks_told(ring, 12, place + 20000), stretch)
            self.same(place_told(ring, 12, stretch), place)

    def test_errors_in_their_order(self):
        for value in no_numbers(0, 12):
            self.refuses(Refused, value, marks_told, "no ring", value, -1)
            self.refuses(Refused, value, place_told, "no ring", value, "no stretch")
            self.refuses(Refused, value, place_told, ring=(0,), length=value, stretch=())
        for value in no_rings(2):
            self.refuses(Refused, value, marks_told, value, 2, -1)
            self.refuses(Refused, value, place_told, value, 2, "no stretch")
            self.refuses(Refused, value, marks_told, number=0, length=2, ring=value)
        for value in no_numbers_from(0):
            self.refuses(Refused, value, marks_told, (1, 1, 0), 2, value)
        wrong = [[value, 0] for value in no_numbers_from(0)] + [(0, value) for value in no_numbers_from(0)]
        for value in NO_SEQUENCES + [(), [0], (1, 1, 0)] + wrong:
            self.refuses(Refused, value, place_told, (1, 1, 0), 2, value)
        stretch = [0]
        self.refuses(Refused, stretch, place_told, [0], 0, stretch)


if __name__ == "__main__":
    unittest.main()
