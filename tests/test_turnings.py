import itertools
import unittest

from helpers import GREAT, Ill, mixed_up
from turnbase.turnings import (
    back, behind, is_even, is_turning, is_whole, loops, order, power, shape, still, turned,
)

FOUR = list(itertools.permutations(range(4)))
SAMPLES = FOUR + [(0,), (0, 1), (1, 0)] + [mixed_up(many, many) for many in (5, 17, 59, 60)]
# Loops of 2, 3, 5, 7, 11, 13 and 17 places and two places that stay.
PRIMES = tuple(
    first + (step + 1) % length
    for first, length in ((0, 17), (17, 13), (30, 11), (41, 7), (48, 5), (53, 3), (56, 2), (58, 1), (59, 1))
    for step in range(length)
)


class IsWholeTest(unittest.TestCase):
    def test_whole_numbers(self):
        for thing in (0, 1, -1, 59, 60, GREAT, -GREAT):
            self.assertIs(is_whole(thing), True)

    def test_anything_else(self):
        for thing in (True, False, None, 1.0, 0.0, 1j, "1", "", b"1", [], [1], (1,), {}, {1}, int, Ill(), len):
            self.assertIs(is_whole(thing), False)


class IsTurningTest(unittest.TestCase):
    def test_turnings(self):
        for thing in SAMPLES + [PRIMES, tuple(range(60)), tuple(range(59, -1, -1))]:
            self.assertIs(is_turning(thing), True)

    def test_too_few_and_too_many_places(self):
        self.assertIs(is_turning(()), False)
        self.assertIs(is_turning(tuple(range(61))), False)
        self.assertIs(is_turning(tuple(range(20000))), False)

    def test_not_each_place_once(self):
        wrong = (
            (1,), (-1,), (0, 0), (1, 1), (0, 2), (1, 2), (0, -1), (-1, 0), (0, 1, 1), (0, 1, 3), (2, 1, 2),
            (0, GREAT), (-GREAT, 0), tuple(range(59)) + (58,), tuple(range(59)) + (60,), tuple(range(1, 61)),
        )
        for thing in wrong:
            self.assertIs(is_turning(thing), False, thing)

    def test_places_that_are_no_whole_numbers(self):
        wrong = (
            (False,), (True, 0), (0, True), (0.0,), (1, 0.0), ("0",), (None,), ((0,),), ([0],), (0, [1]),
            (0, None), (0, Ill()), (Ill(), 0), ({},), (1j,), (0, 1j), (0, "1"), (float("nan"),),
        )
        for thing in wrong:
            self.assertIs(is_turning(thing), False)

    def test_things_that_are_no_tuples(self):
        wrong = ([0], [1, 0], "0", "01", "", b"\x00", b"\x01\x00", None, 0, 1, True, 0.5, {0: 0}, {0}, range(2), Ill(), tuple)
        for thing in wrong:
            self.assertIs(is_turning(thing), False)


class BehindAndBackTest(unittest.TestCase):
    def test_the_still_one(self):
        self.assertEqual(still(1), (0,))
        self.assertEqual(still(3), (0, 1, 2))
        self.assertEqual(still(60), tuple(range(60)))
        self.assertIs(is_turning(still(60)), True)

    def test_the_example_of_the_document(self):
        self.assertEqual(behind((1, 2, 0), (0, 2, 1)), (2, 1, 0))
        self.assertEqual(behind((0, 2, 1), (1, 2, 0)), (1, 0, 2))

    def test_first_by_one_then_by_other(self):
        for one in FOUR:
            for other in FOUR:
                made = behind(one, other)
                self.assertIs(is_turning(made), True)
                for place in range(4):
                    self.assertEqual(made[place], other[one[place]])

    def test_back_takes_each_place_back(self):
        self.assertEqual(back((1, 2, 0)), (2, 0, 1))
        for one in SAMPLES + [PRIMES]:
            self.assertIs(is_turning(back(one)), True)
            for place in range(len(one)):
                self.assertEqual(back(one)[one[place]], place)
            self.assertEqual(behind(one, back(one)), still(len(one)))
            self.assertEqual(behind(back(one), one), still(len(one)))

    def test_one_place(self):
        self.assertEqual(behind((0,), (0,)), (0,))
        self.assertEqual(back((0,)), (0,))
        self.assertEqual(turned((0,), (0,)), (0,))

    def test_sixty_places(self):
        one, other = mixed_up(60, 1), mixed_up(60, 2)
        self.assertEqual(behind(one, other), tuple(other[one[place]] for place in range(60)))
        self.assertNotEqual(behind(one, other), behind(other, one))

    def test_turned_about_place_by_place(self):
        self.assertEqual(turned((1, 0, 2), (1, 2, 0)), (0, 2, 1))
        pairs = list(itertools.product(FOUR, FOUR)) + [(mixed_up(60, 3), mixed_up(60, 4))]
        for one, by in pairs:
            made = turned(one, by)
            self.assertIs(is_turning(made), True)
            for place in range(len(one)):
                self.assertEqual(made[by[place]], by[one[place]])
            self.assertEqual(made, behind(behind(back(by), one), by))


class PowerTest(unittest.TestCase):
    def test_nought_one_and_one_back(self):
        for one in SAMPLES + [PRIMES]:
            self.assertEqual(power(one, 0), still(len(one)))
            self.assertEqual(power(one, 1), one)
            self.assertEqual(power(one, -1), back(one))

    def test_one_behind_the_other(self):
        for one in SAMPLES + [PRIMES]:
            ahead = backward = still(len(one))
            for times in range(40):
                self.assertEqual(power(one, times), ahead)
                self.assertEqual(power(one, -times), backward)
                ahead = behind(ahead, one)
                backward = behind(backward, back(one))

    def test_numbers_of_many_figures(self):
        for times in (GREAT, 10 ** 300 - 1, 3 ** 500):
            for one in SAMPLES + [PRIMES]:
                rest = power(one, times % order(one))
                self.assertEqual(power(one, times), rest)
                self.assertEqual(power(one, -times), back(rest))

    def test_known_power_of_many_figures(self):
        # 10 ** 299 leaves 1 by 3.
        self.assertEqual(power((1, 2, 0), 10 ** 299), (1, 2, 0))
        self.assertEqual(power((1, 2, 0), 10 ** 299 + 1), (2, 0, 1))
        self.assertEqual(power((1, 2, 0), -(10 ** 299)), (2, 0, 1))
        self.assertEqual(power((1, 2, 0), 10 ** 299 + 2), (0, 1, 2))


class OrderTest(unittest.TestCase):
    def test_least_number_from_one_on(self):
        for one in FOUR + [(0,), (1, 0), mixed_up(5, 5), (1, 0, 3, 4, 2), (1, 2, 3, 0, 5, 4, 7, 8, 9, 10, 11, 6)]:
            times, here = 1, one
            while here != still(len(one)):
                times, here = times + 1, behind(here, one)
            self.assertEqual(order(one), times)

    def test_the_still_one(self):
        self.assertEqual(order((0,)), 1)
        self.assertEqual(order(still(60)), 1)

    def test_many_loops(self):
        self.assertIs(is_turning(PRIMES), True)
        self.assertEqual(order(PRIMES), 2 * 3 * 5 * 7 * 11 * 13 * 17)
        self.assertEqual(order(tuple(range(1, 60)) + (0,)), 60)

    def test_loops_of_lengths_with_a_common_part(self):
        self.assertEqual(order((1, 2, 3, 0, 5, 6, 7, 8, 9, 4)), 12)
        self.assertEqual(order((1, 2, 3, 0, 5, 4)), 4)
        self.assertEqual(order((1, 0, 3, 4, 5, 2)), 4)


class LoopsTest(unittest.TestCase):
    def test_known_loops(self):
        self.assertEqual(loops((3, 2, 1, 5, 4, 0)), [[0, 3, 5], [1, 2]])
        self.assertEqual(loops((2, 0, 1)), [[0, 2, 1]])
        self.assertEqual(loops((0, 4, 3, 2, 1)), [[1, 4], [2, 3]])

    def test_the_still_one_has_none(self):
        self.assertEqual(loops((0,)), [])
        self.assertEqual(loops(still(60)), [])

    def test_all_that_is_told_of_loops(self):
        for one in SAMPLES + [PRIMES]:
            found = loops(one)
            places = [place for loop in found for place in loop]
            self.assertEqual(sorted(places), [place for place in range(len(one)) if one[place] != place])
            self.assertEqual([loop[0] for loop in found], sorted(loop[0] for loop in found))
            for loop in found:
                self.assertIsInstance(loop, list)
                self.assertGreaterEqual(len(loop), 2)
                self.assertEqual(loop[0], min(loop))
                for place, to in zip(loop, loop[1:] + loop[:1]):
                    self.assertEqual(one[place], to)

    def test_told_lists_are_the_askers_own(self):
        one = (3, 2, 1, 5, 4, 0)
        told = loops(one)
        told[0].append(9)
        told.pop()
        shape(one).clear()
        self.assertEqual(loops(one), [[0, 3, 5], [1, 2]])
        self.assertEqual(shape(one), [3, 2, 1])
        self.assertIsNot(loops(one), loops(one))


class ShapeTest(unittest.TestCase):
    def test_known_shapes(self):
        self.assertEqual(shape((3, 2, 1, 5, 4, 0)), [3, 2, 1])
        self.assertEqual(shape((1, 0, 3, 4, 2, 5, 6)), [3, 2, 1, 1])
        self.assertEqual(shape(PRIMES), [17, 13, 11, 7, 5, 3, 2, 1, 1])
        self.assertEqual(shape(tuple(range(1, 60)) + (0,)), [60])

    def test_the_still_one(self):
        self.assertEqual(shape((0,)), [1])
        self.assertEqual(shape(still(60)), [1] * 60)

    def test_lengths_with_ones_the_longest_first(self):
        for one in SAMPLES:
            found = shape(one)
            self.assertEqual(sum(found), len(one))
            self.assertEqual(found, sorted(found, reverse=True))
            self.assertEqual([part for part in found if part > 1], sorted(map(len, loops(one)), reverse=True))


class IsEvenTest(unittest.TestCase):
    def test_even_where_as_many_pairs_stand_the_wrong_way(self):
        for one in SAMPLES + [PRIMES]:
            wrong = sum(1 for first, second in itertools.combinations(one, 2) if first > second)
            self.assertIs(is_even(one), wrong % 2 == 0)

    def test_the_still_one(self):
        self.assertIs(is_even((0,)), True)
        self.assertIs(is_even(still(59)), True)
        self.assertIs(is_even(still(60)), True)

    def test_known_ones(self):
        self.assertIs(is_even((1, 0)), False)
        self.assertIs(is_even((1, 2, 0)), True)
        self.assertIs(is_even(tuple(range(1, 60)) + (0,)), False)
