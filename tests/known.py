"""Known groups that several tests ask of: small ones whose turnings can be found one by one, and large ones."""

import itertools
import math
import re

from helpers import ANYTHING, by_blocks, loop, mixed_up
from turnbase.groups import Group
from turnbase.texts import read
from turnbase.turnings import behind, is_even, still

FOUR = list(itertools.permutations(range(4)))


def read_from_one(text, many):
    """A turning whose text counts its places from 1."""
    return read(re.sub("[0-9]+", lambda found: str(int(found[0]) - 1), text), many)


ROUND, SWAP = loop(60, *range(60)), loop(60, 0, 1)
ALL = [ROUND, SWAP]
EVEN = [loop(60, *range(59)), loop(60, 57, 58, 59)]
HALVES = [loop(60, *range(30)), loop(60, 0, 1), loop(60, *range(30, 60)), loop(60, 30, 31)]
FLIPS = [loop(60, place, place + 1) for place in range(0, 60, 2)]
PAIRS = [loop(60, 0, 1), by_blocks(loop(30, *range(30)), 2), by_blocks(loop(30, 0, 1), 2)]
TENS = [loop(60, *range(10)), loop(60, 0, 1), by_blocks(loop(6, *range(6)), 10), by_blocks(loop(6, 0, 1), 10)]
CUBE = [read_from_one(text, 48) for text in (
    "(1,3,8,6)(2,5,7,4)(9,33,25,17)(10,34,26,18)(11,35,27,19)", "(9,11,16,14)(10,13,15,12)(1,17,41,40)(4,20,44,37)(6,22,46,35)",
    "(17,19,24,22)(18,21,23,20)(6,25,43,16)(7,28,42,13)(8,30,41,11)", "(25,27,32,30)(26,29,31,28)(3,38,43,19)(5,36,45,21)(8,33,48,24)",
    "(33,35,40,38)(34,37,39,36)(3,9,46,32)(2,12,47,29)(1,14,48,27)", "(41,43,48,46)(42,45,47,44)(14,22,30,38)(15,23,31,39)(16,24,32,40)",
)]
MATHIEU = [
    loop(24, *range(23)), read_from_one("(3,17,10,7,9)(4,13,14,19,5)(8,18,11,12,23)(15,20,22,21,16)", 24),
    read_from_one("(1,24)(2,23)(3,12)(4,16)(5,18)(6,10)(7,20)(8,14)(9,21)(11,17)(13,22)(15,19)", 24),
]
# The sixty even turnings of five places, as they take one another.
SIXTY = [one for one in itertools.permutations(range(5)) if is_even(one)]
REGULAR = [tuple(SIXTY.index(behind(one, by)) for one in SIXTY) for by in (loop(5, *range(5)), loop(5, 0, 1, 2))]
LARGE = [
    ("all", 60, ALL, math.factorial(60)), ("even", 60, EVEN, math.factorial(60) // 2), ("halves", 60, HALVES, math.factorial(30) ** 2),
    ("flips", 60, FLIPS, 2 ** 30), ("pairs", 60, PAIRS, 2 ** 30 * math.factorial(30)),
    ("tens", 60, TENS, math.factorial(10) ** 6 * math.factorial(6)), ("cube", 48, CUBE, 43252003274489856000),
    ("mathieu", 24, MATHIEU, 244823040), ("regular", 60, REGULAR, 60), ("round", 60, [ROUND], 60),
    ("all by chance", 60, [mixed_up(60, 1), mixed_up(60, 2), SWAP], math.factorial(60)),
]
SMALL = [(4, list(makers)) for makers in itertools.combinations(FOUR, 2)] + [(4, [one]) for one in FOUR] + [
    (1, []), (1, [(0,)]), (2, []), (2, [(1, 0)]), (4, []), (4, [still(4)] * 3), (3, [(1, 2, 0), (1, 0, 2), (1, 2, 0)]),
    (6, [loop(6, 0, 2, 4), loop(6, 1, 5)]), (6, [loop(6, *range(6)), loop(6, 1, 5)]), (6, [loop(6, 3, 5), loop(6, 5, 2), loop(6, 0, 4)]),
    (6, [mixed_up(6, 1), mixed_up(6, 2)]), (6, [mixed_up(6, 3)]), (5, [mixed_up(5, seed) for seed in range(4)]),
    (6, [by_blocks((1, 2, 0), 2), loop(6, 4, 5)]), (6, [by_blocks((1, 0), 3), loop(6, 3, 5, 4)]),
]
# Sizes of just a thousand, and of one more.
THOUSAND = [loop(30, *range(10)), loop(30, *range(10, 20)), loop(30, *range(20, 30))]
ONE_MORE = [loop(31, *range(7)), loop(31, *range(7, 18)), loop(31, *range(18, 31))]
# Of anything that is no turning of four places.
NO_TURNINGS = ANYTHING + (
    0, 3, [], (), [0, 1, 2, 3], (0, 1, 2), (0, 1, 2, 3, 4), (0,), (0, 1, 2, 2), (1, 2, 3, 4), (0, 1, 2, -1), (0, 1, 2, 3.0), (1, 0, 2, "3"),
    (False, True, 2, 3), (0, 1, 2, None), still(60), tuple(range(61)),
)
BUILT = {name: Group(many, makers) for name, many, makers, _ in LARGE}
