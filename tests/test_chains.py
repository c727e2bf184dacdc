import itertools
import unittest

from helpers import all_made, by_blocks, loop, mixed_up
from turnbase.chains import Chain
from turnbase.recipes import is_recipe, worked
from turnbase.turnings import behind, still

MADE = [
    (1, [(0,)]), (4, [(1, 2, 3, 0), (1, 0, 2, 3)]), (6, [loop(6, 0, 2, 4), loop(6, 1, 5)]), (6, [mixed_up(6, 1), mixed_up(6, 2)]),
    (6, [by_blocks((1, 2, 0), 2), loop(6, 4, 5), still(6), loop(6, 0, 1)]),
]


def chain_of(many, makers):
    chain = Chain(many)
    for number, maker in enumerate(makers):
        chain.take(number, maker)
    return chain


class ChainTest(unittest.TestCase):
    def test_takes_just_what_is_new(self):
        chain = Chain(4)
        self.assertIs(chain.take(0, still(4)), False)
        self.assertIs(chain.take(1, (1, 2, 0, 3)), True)
        self.assertIs(chain.take(2, (2, 0, 1, 3)), False)
        self.assertIs(chain.take(3, (0, 1, 3, 2)), True)
        self.assertIs(chain.take(4, (3, 2, 1, 0)), False)

    def test_lines_make_the_turnings_kept_beside_them(self):
        for many, makers in MADE + [(60, [loop(60, *range(60)), loop(60, 0, 1)]), (60, [mixed_up(60, 1), mixed_up(60, 2)])]:
            book = chain_of(many, makers).book
            self.assertIs(is_recipe(book.lines, len(makers)), True)
            self.assertEqual(worked(book.lines, makers, many), book.made)
            self.assertEqual(book.lines.count(("still",)), 1)

    def test_few_lines_even_for_all_turnings_of_sixty_places(self):
        # Recipes are written with numbers of at most six figures.
        for makers in ([loop(60, *range(60)), loop(60, 0, 1)], [mixed_up(60, seed) for seed in range(3)]):
            self.assertLess(len(chain_of(60, makers).book.lines), 20000)

    def test_holds_the_part_at_each_place(self):
        for many, makers in MADE:
            chain = chain_of(many, makers)
            found = all_made(many, makers)
            for level in range(many):
                for one in itertools.permutations(range(many)):
                    if one[:level] == still(level):
                        self.assertIs(chain.holds(one, level), one in found)

    def test_what_is_sifted_makes_the_turning(self):
        for many, makers in MADE:
            chain = chain_of(many, makers)
            for one in all_made(many, makers):
                here = still(many)
                for line in chain.sifted(one, 0):
                    here = behind(chain.book.made[line], here)
                self.assertEqual(here, one)

    def test_least_behind_a_place(self):
        for many, makers in MADE:
            chain = chain_of(many, makers)
            found = all_made(many, makers)
            for level in range(many + 1):
                part = [one for one in found if one[:level] == still(level)]
                for seed in range(5):
                    outer = mixed_up(many, seed)
                    self.assertEqual(chain.least_of(outer, level), min(behind(one, outer) for one in part))
