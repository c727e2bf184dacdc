import itertools
import unittest

from helpers import all_made, by_blocks, loop, mixed_up
from turnbase.partings import finest, rings_of
from turnbase.turnings import still

FOUR = list(itertools.permutations(range(4)))
ROUND = loop(60, *range(60))
SWAPS = tuple(place ^ 1 for place in range(60))
MAKERS = [loop(6, 0, 2, 4), loop(6, 1, 5)]


def all_partings(many):
    """All partings of so many places, each with its parts rising by first places."""
    if many == 0:
        return [[]]
    found = []
    for smaller in all_partings(many - 1):
        found.append(smaller + [[many - 1]])
        for number in range(len(smaller)):
            found.append(smaller[:number] + [smaller[number] + [many - 1]] + smaller[number + 1:])
    return [sorted(parts) for parts in found]


def together(parts, one, other):
    return any(one in part and other in part for part in parts)


def is_kept(parts, maker):
    return all(together(parts, maker[one], maker[other]) for part in parts for one in part for other in part)


def lies_within(parts, others):
    return all(any(set(part) <= set(other) for other in others) for part in parts)


class RingsOfTest(unittest.TestCase):
    def test_known_rings(self):
        self.assertEqual(rings_of(6, MAKERS), [[0, 2, 4], [1, 5], [3]])
        self.assertEqual(rings_of(4, [(3, 1, 2, 0)]), [[0, 3], [1], [2]])
        self.assertEqual(rings_of(4, [(3, 1, 2, 0), (0, 3, 2, 1)]), [[0, 1, 3], [2]])

    def test_no_makers_and_still_ones(self):
        self.assertEqual(rings_of(1, []), [[0]])
        self.assertEqual(rings_of(1, [(0,)]), [[0]])
        self.assertEqual(rings_of(3, []), [[0], [1], [2]])
        self.assertEqual(rings_of(60, []), [[place] for place in range(60)])
        self.assertEqual(rings_of(3, [still(3), still(3)]), [[0], [1], [2]])

    def test_sixty_places(self):
        self.assertEqual(rings_of(60, [ROUND]), [list(range(60))])
        self.assertEqual(rings_of(60, [SWAPS]), [[place, place + 1] for place in range(0, 60, 2)])
        self.assertEqual(rings_of(60, [loop(60, place, place + 1) for place in range(59)]), [list(range(60))])
        self.assertEqual(rings_of(60, [loop(60, place, place + 1) for place in range(58, -1, -1)]), [list(range(60))])
        self.assertEqual(rings_of(60, [loop(60, 59, 0)]), [[0, 59]] + [[place] for place in range(1, 59)])

    def test_two_hundred_makers(self):
        makers = [mixed_up(30, seed) + tuple(range(30, 60)) for seed in range(200)]
        self.assertEqual(rings_of(60, makers), [list(range(30))] + [[place] for place in range(30, 60)])

    def test_all_places_to_which_one_can_be_taken(self):
        for makers in list(itertools.combinations(FOUR, 2)) + [[one] for one in FOUR]:
            found = all_made(4, makers)
            rings = sorted({tuple(sorted({one[place] for one in found})) for place in range(4)})
            self.assertEqual(rings_of(4, list(makers)), [list(ring) for ring in rings])


class FinestTest(unittest.TestCase):
    def test_known_partings(self):
        self.assertEqual(finest(6, [loop(6, *range(6))], [(0, 3)]), [[0, 3], [1, 4], [2, 5]])
        self.assertEqual(finest(6, [loop(6, *range(6))], [(4, 0)]), [[0, 2, 4], [1, 3, 5]])
        self.assertEqual(finest(6, [loop(6, *range(6))], [(0, 3), (5, 1)]), [[0, 1, 2, 3, 4, 5]])
        self.assertEqual(finest(6, MAKERS, [(0, 1)]), [[0, 1, 2, 4, 5], [3]])
        self.assertEqual(finest(6, MAKERS, [(3, 5)]), [[0], [1, 3, 5], [2], [4]])

    def test_no_makers(self):
        self.assertEqual(finest(5, [], []), [[0], [1], [2], [3], [4]])
        self.assertEqual(finest(5, [], [(4, 1), (3, 0)]), [[0, 3], [1, 4], [2]])
        self.assertEqual(finest(5, [], [(4, 1), (1, 3)]), [[0], [1, 3, 4], [2]])

    def test_no_pairs_and_pairs_of_alike_places(self):
        self.assertEqual(finest(1, [], []), [[0]])
        self.assertEqual(finest(1, [(0,)], [(0, 0)]), [[0]])
        self.assertEqual(finest(4, [(1, 2, 3, 0)], []), [[0], [1], [2], [3]])
        self.assertEqual(finest(4, [(1, 2, 3, 0)], [(2, 2), (0, 0)]), [[0], [1], [2], [3]])
        self.assertEqual(finest(4, [(1, 2, 3, 0)], [(2, 2), (1, 3), (1, 1), (3, 1)]), [[0, 2], [1, 3]])

    def test_sixty_places(self):
        self.assertEqual(finest(60, [ROUND], [(7, 27)]), [[place, place + 20, place + 40] for place in range(20)])
        self.assertEqual(finest(60, [ROUND], [(59, 0)]), [list(range(60))])
        self.assertEqual(finest(60, [], [(59, 0)]), [[0, 59]] + [[place] for place in range(1, 59)])
        self.assertEqual(finest(60, [], [(place + 1, place) for place in range(59)]), [list(range(60))])
        blocks = [by_blocks(loop(12, *range(12)), 5), by_blocks(loop(12, 3, 4), 5), loop(60, 0, 1), loop(60, *range(5))]
        parts = [list(range(first, first + 5)) for first in range(0, 60, 5)]
        self.assertEqual(finest(60, blocks, [(57, 58)]), parts)
        self.assertEqual(finest(60, blocks, [(54, 55)]), [list(range(60))])

    def test_two_hundred_makers_and_many_pairs(self):
        makers = [mixed_up(30, seed) + tuple(range(30, 60)) for seed in range(200)]
        pairs = list(itertools.product(range(30, 60), repeat=2)) * 20
        self.assertEqual(finest(60, makers, pairs), [[place] for place in range(30)] + [list(range(30, 60))])
        self.assertEqual(finest(60, makers, [(40, 3)]), [list(range(30)) + [40]] + [[p] for p in range(30, 60) if p != 40])

    def test_within_every_other_parting_that_is_so(self):
        five = [mixed_up(5, seed) for seed in range(8)]
        pairs = list(itertools.combinations(range(5), 2))
        told = list(itertools.product(itertools.combinations(five, 2), [[pair] for pair in pairs] + [[(0, 4), (3, 1)], []]))
        told += [((one,), [pair]) for one in five for pair in pairs]
        partings = all_partings(5)
        for makers, joined in told:
            parts = finest(5, list(makers), joined)
            good = [
                others for others in partings
                if all(is_kept(others, maker) for maker in makers) and all(together(others, *pair) for pair in joined)
            ]
            self.assertIn(parts, good)
            self.assertTrue(all(lies_within(parts, others) for others in good))


class HandedInAndToldTest(unittest.TestCase):
    def test_nothing_that_is_handed_in_is_changed(self):
        makers, pairs = list(MAKERS), [(0, 1), (3, 3)]
        rings_of(6, makers)
        finest(6, makers, pairs)
        self.assertEqual(makers, MAKERS)
        self.assertEqual(pairs, [(0, 1), (3, 3)])

    def test_told_lists_are_the_askers_own(self):
        for ask in (lambda: rings_of(6, MAKERS), lambda: finest(6, MAKERS, [(3, 5)])):
            before = [list(part) for part in ask()]
            told = ask()
            told[0].append(9)
            told.pop()
            self.assertEqual(ask(), before)

    def test_kinds(self):
        for parts in (rings_of(6, MAKERS), finest(6, MAKERS, [(3, 5)])):
            self.assertIsInstance(parts, list)
            for part in parts:
                self.assertIsInstance(part, list)
