import itertools
import math
import unittest

from helpers import all_made, by_blocks, loop, mixed_up
from known import BUILT, FOUR, NO_TURNINGS, SMALL
from turnbase.errors import NoTurning, NotPart
from turnbase.groups import Group
from turnbase.parts import is_part, same
from turnbase.stairs import about, closed, is_calm, is_kept, is_tame, mixed, slopes, stairs
from turnbase.turnings import back, behind, still, turned

WHOLE, EVEN_ONES, ALONE = Group(4, [(1, 2, 3, 0), (1, 0, 2, 3)]), Group(4, [(1, 2, 0, 3), (0, 2, 3, 1)]), Group(4, [])
KLEIN, SQUARE = Group(4, [(1, 0, 3, 2), (2, 3, 0, 1)]), Group(4, [(1, 2, 3, 0), (2, 1, 0, 3)])
OF_FOUR = [Group(4, makers) for many, makers in SMALL if many == 4][::5] + [WHOLE, EVEN_ONES, ALONE, KLEIN, SQUARE]
OF_SIX = [Group(6, makers) for many, makers in SMALL if many == 6 and len(all_made(many, makers)) <= 120]
EVEN_OF_FIVE = Group(5, [loop(5, *range(5)), loop(5, 0, 1, 2)])
# Turnings of the numbers from 0 to 6 by times and plus; those of eight things, four of them together the other four.
TIMES_AND_PLUS = Group(7, [tuple((place + 1) % 7 for place in range(7)), tuple(place * 3 % 7 for place in range(7))])
QUATERNIONS = Group(8, [(2, 3, 1, 0, 6, 7, 5, 4), (4, 5, 7, 6, 1, 0, 2, 3)])


def mix(one, other):
    return behind(behind(behind(back(one), back(other)), one), other)


def made_of_all(many, turnings):
    """All that is made of these turnings; those that are made already are left out, so that few are tried."""
    makers, found = [], {still(many)}
    for turning in sorted(turnings):
        if turning not in found:
            makers.append(turning)
            found = set(all_made(many, makers))
    return sorted(found)


def closed_one_by_one(group, turnings):
    return made_of_all(group.many, {turned(turning, by) for turning in turnings for by in group.listed()})


def mixed_one_by_one(group, part):
    return closed_one_by_one(group, {mix(one, other) for one in group.listed() for other in part.listed()})


def parts_of(groups):
    return [(group, part) for group, part in itertools.product(groups, repeat=2) if is_part(part, group)]


class AboutTest(unittest.TestCase):
    def test_against_all_turnings(self):
        for group in OF_FOUR:
            for by in FOUR[::3]:
                self.assertEqual(about(group, by).listed(), sorted(turned(one, by) for one in group.listed()))

    def test_groups_far_too_large_to_be_listed(self):
        for name in ("halves", "flips", "tens", "mathieu", "cube", "regular"):
            group = BUILT[name]
            by = mixed_up(group.many, 4)
            there = about(group, by)
            self.assertEqual(there.size(), group.size())
            for k in (0, 1, group.size() // 3, group.size() - 1):
                self.assertTrue(there.has(turned(group.nth(k), by)))
            self.assertTrue(same(about(there, back(by)), group))
            self.assertEqual(about(group, still(group.many)).ground(), group.ground())
        self.assertTrue(same(about(BUILT["halves"], BUILT["round"].nth(30)), BUILT["halves"]))
        self.assertFalse(same(about(BUILT["halves"], BUILT["round"].nth(1)), BUILT["halves"]))

    def test_one_place_and_no_makers(self):
        self.assertEqual(about(Group(1, []), (0,)).size(), 1)
        self.assertEqual(about(Group(60, []), mixed_up(60, 1)).size(), 1)

    def test_by_what_is_no_turning_of_its_places(self):
        for by in NO_TURNINGS:
            for group in (WHOLE, ALONE):
                with self.assertRaises(NoTurning):
                    about(group, by)


class KeptTest(unittest.TestCase):
    def test_against_all_turnings(self):
        for group, part in parts_of(OF_FOUR) + parts_of(OF_SIX):
            turnings = set(part.listed())
            expected = all({turned(one, by) for one in turnings} == turnings for by in group.listed())
            self.assertIs(is_kept(group, part), expected)

    def test_the_whole_group_and_the_still_turning_alone(self):
        for group in OF_FOUR + OF_SIX + [BUILT["tens"], BUILT["cube"], BUILT["mathieu"], Group(1, []), Group(60, [])]:
            self.assertIs(is_kept(group, group), True)
            self.assertIs(is_kept(group, Group(group.many, [])), True)

    def test_great_ones(self):
        for name, part, expected in (
            ("all", "even", True), ("all", "halves", False), ("pairs", "flips", True), ("all", "flips", False), ("even", "regular", False),
            ("all", "all by chance", True), ("all", "round", False),
        ):
            self.assertIs(is_kept(BUILT[name], BUILT[part]), expected, (name, part))


class ClosedTest(unittest.TestCase):
    def test_against_all_turnings(self):
        for group, part in parts_of(OF_FOUR) + parts_of(OF_SIX):
            there = closed(group, part)
            self.assertIsInstance(there, Group)
            self.assertEqual(there.listed(), closed_one_by_one(group, part.listed()))
            self.assertIs(is_kept(group, there), True)

    def test_the_whole_group_and_the_still_turning_alone(self):
        for group in OF_FOUR + [BUILT["tens"], BUILT["mathieu"], Group(1, []), Group(60, [])]:
            self.assertTrue(same(closed(group, group), group))
            self.assertEqual(closed(group, Group(group.many, [])).size(), 1)

    def test_great_ones(self):
        for name, makers, size in (
            ("all", [loop(60, 3, 59)], math.factorial(60)), ("all", [loop(60, 3, 59, 7)], math.factorial(60) // 2),
            ("even", [loop(60, 0, 1, 2)], math.factorial(60) // 2), ("pairs", [loop(60, 0, 1)], 2 ** 30), ("flips", [loop(60, 0, 1)], 2),
            ("pairs", [behind(loop(60, 0, 1), loop(60, 8, 9))], 2 ** 29), ("halves", [loop(60, 0, 1)], math.factorial(30)),
            ("halves", [behind(loop(60, 0, 1), loop(60, 58, 59))], math.factorial(30) ** 2 // 2),
            ("tens", [loop(60, 5, 6, 7)], (math.factorial(10) // 2) ** 6), ("mathieu", [BUILT["mathieu"].nth(10 ** 6)], 244823040),
        ):
            group = BUILT[name]
            self.assertEqual(closed(group, Group(group.many, makers)).size(), size, (name, makers))


class MixedTest(unittest.TestCase):
    def test_against_all_turnings(self):
        for group, part in parts_of(OF_FOUR) + parts_of(OF_SIX):
            there = mixed(group, part)
            self.assertIsInstance(there, Group)
            self.assertEqual(there.listed(), mixed_one_by_one(group, part))
            self.assertIs(is_kept(group, there), True)

    def test_known_ones(self):
        self.assertTrue(same(mixed(WHOLE, WHOLE), EVEN_ONES))
        self.assertTrue(same(mixed(EVEN_ONES, EVEN_ONES), KLEIN))
        self.assertTrue(same(mixed(WHOLE, KLEIN), KLEIN))
        self.assertEqual(mixed(KLEIN, KLEIN).size(), 1)
        self.assertEqual(mixed(SQUARE, SQUARE).listed(), [(0, 1, 2, 3), (2, 3, 0, 1)])
        self.assertTrue(same(mixed(EVEN_OF_FIVE, EVEN_OF_FIVE), EVEN_OF_FIVE))

    def test_the_whole_group_and_the_still_turning_alone(self):
        for group in OF_FOUR + [BUILT["tens"], BUILT["all"], Group(1, []), Group(60, [])]:
            self.assertEqual(mixed(group, Group(group.many, [])).size(), 1)
        for group in (KLEIN, BUILT["flips"], BUILT["round"], Group(60, [])):
            self.assertEqual(mixed(group, group).size(), 1)

    def test_a_part_that_is_not_kept(self):
        # What is mixed with a part is kept by the whole group, though the part is not.
        part = Group(4, [(1, 0, 2, 3)])
        self.assertIs(is_kept(WHOLE, part), False)
        self.assertTrue(same(mixed(WHOLE, part), EVEN_ONES))
        self.assertEqual(mixed(BUILT["all"], Group(60, [loop(60, 0, 1)])).size(), math.factorial(60) // 2)
        self.assertEqual(mixed(BUILT["pairs"], Group(60, [loop(60, 0, 1)])).size(), 2 ** 29)

    def test_great_ones(self):
        for name, size in (
            ("all", math.factorial(60) // 2), ("halves", (math.factorial(30) // 2) ** 2), ("pairs", 2 ** 29 * math.factorial(30) // 2),
            ("cube", 43252003274489856000 // 2), ("mathieu", 244823040), ("regular", 60), ("tens", math.factorial(10) ** 6 // 2 * 360),
        ):
            group = BUILT[name]
            there = mixed(group, group)
            self.assertEqual(there.size(), size, name)
            self.assertTrue(is_part(there, group))
            for one, other in itertools.product((1, group.size() // 7, group.size() - 1), repeat=2):
                self.assertTrue(there.has(mix(group.nth(one), group.nth(other))))


class NoPartTest(unittest.TestCase):
    def test_what_is_no_part(self):
        wrong = [(group, part) for group, part in itertools.product(OF_FOUR, repeat=2) if not is_part(part, group)]
        self.assertGreater(len(wrong), 50)
        wrong += [(WHOLE, Group(3, [])), (WHOLE, EVEN_OF_FIVE), (EVEN_OF_FIVE, ALONE), (ALONE, Group(60, [])), (Group(60, []), ALONE)]
        wrong += [(BUILT["even"], BUILT["all"]), (BUILT["flips"], BUILT["pairs"]), (BUILT["even"], BUILT["round"])]
        for group, part in wrong:
            for asked in (is_kept, closed, mixed):
                with self.assertRaises(NotPart):
                    asked(group, part)


class StairsTest(unittest.TestCase):
    KNOWN = [
        (WHOLE, [24, 12, 4, 1], [24, 12]), (EVEN_ONES, [12, 4, 1], [12, 4]), (KLEIN, [4, 1], [4, 1]), (SQUARE, [8, 2, 1], [8, 2, 1]),
        (ALONE, [1], [1]), (Group(1, []), [1], [1]), (Group(60, []), [1], [1]), (Group(3, [(1, 2, 0), (1, 0, 2)]), [6, 3, 1], [6, 3]),
        (EVEN_OF_FIVE, [60], [60]), (Group(5, [loop(5, *range(5)), loop(5, 0, 1)]), [120, 60], [120, 60]), (TIMES_AND_PLUS, [42, 7, 1], [42, 7]),
        (QUATERNIONS, [8, 2, 1], [8, 2, 1]), (Group(2, [(1, 0)]), [2, 1], [2, 1]),
        (Group(8, [loop(8, *range(8)), tuple(-place % 8 for place in range(8))]), [16, 4, 1], [16, 4, 2, 1]),
        (Group(9, [loop(9, 0, 1, 2), by_blocks((1, 2, 0), 3)]), [81, 9, 1], [81, 9, 3, 1]),
    ]
    GREAT = [
        ("all", [math.factorial(60), math.factorial(60) // 2]), ("flips", [2 ** 30, 1]), ("round", [60, 1]), ("mathieu", [244823040]),
        ("cube", [43252003274489856000, 43252003274489856000 // 2]), ("regular", [60]),
    ]

    def test_known_ones(self):
        for group, down, sloping in self.KNOWN:
            self.assertEqual([stair.size() for stair in stairs(group)], down)
            self.assertEqual([slope.size() for slope in slopes(group)], sloping)
            self.assertIs(is_tame(group), down[-1] == 1)
            self.assertIs(is_calm(group), sloping[-1] == 1)

    def test_great_ones(self):
        for name, down in self.GREAT:
            self.assertEqual([stair.size() for stair in stairs(BUILT[name])], down, name)
            self.assertEqual([slope.size() for slope in slopes(BUILT[name])], down, name)
        for name, is_so in (("even", False), ("flips", True), ("round", True), ("mathieu", False), ("cube", False), ("regular", False)):
            self.assertEqual((is_tame(BUILT[name]), is_calm(BUILT[name])), (is_so, is_so), name)

    def test_as_the_point_tells_it(self):
        for group in OF_FOUR + OF_SIX:
            for found, following in ((stairs(group), lambda last: mixed_one_by_one(last, last)), (slopes(group), lambda last: mixed_one_by_one(group, last))):
                self.assertIsInstance(found, list)
                self.assertTrue(same(found[0], group))
                for before, after in zip(found, found[1:]):
                    self.assertEqual(after.listed(), following(before))
                    self.assertFalse(same(before, after))
                self.assertEqual(found[-1].listed(), following(found[-1]))

    def test_a_great_group_with_many_stairs(self):
        # Halves, halves of halves and so on of thirty-two places, any two halves of one exchanged: known by Kaloujnine's tableaux.
        group = Group(32, [by_blocks(loop(32 // length, 0, 1), length) for length in (1, 2, 4, 8, 16)])

        def size_at(height):
            return 2 ** sum(max(width - height, 0) for width in (1, 2, 4, 8, 16))

        self.assertEqual([stair.size() for stair in stairs(group)], [size_at(2 ** k - 1) for k in range(6)])
        self.assertEqual([slope.size() for slope in slopes(group)], [size_at(k) for k in range(17)])
        self.assertIs(is_tame(group), True)
        self.assertIs(is_calm(group), True)

    def test_tame_but_not_calm(self):
        threes = Group(60, [loop(60, k, k + 1, k + 2) for k in range(0, 60, 3)] + [loop(60, k, k + 1) for k in range(0, 60, 3)])
        self.assertEqual([stair.size() for stair in stairs(threes)], [6 ** 20, 3 ** 20, 1])
        self.assertEqual([slope.size() for slope in slopes(threes)], [6 ** 20, 3 ** 20])
        self.assertEqual((is_tame(threes), is_calm(threes)), (True, False))


class HandedInAndToldTest(unittest.TestCase):
    def test_told_lists_are_the_askers_own(self):
        for ask in (stairs, slopes):
            before = [stair.ground() for stair in ask(WHOLE)]
            told = ask(WHOLE)
            told.append("more")
            told[0] = "other"
            self.assertEqual([stair.ground() for stair in ask(WHOLE)], before)

    def test_groups_handed_in_stay(self):
        group, part = Group(4, [(1, 2, 3, 0), still(4), (1, 0, 2, 3)]), Group(4, [(1, 0, 3, 2), (1, 0, 3, 2)])
        before = (group.told(), group.paper(), part.told(), part.paper())
        about(group, (1, 0, 2, 3))
        for there in (closed(group, part), mixed(group, part), stairs(group)[0], slopes(group)[-1]):
            closed(group, there)
            mixed(there, there)
        is_kept(group, part)
        self.assertEqual((group.told(), group.paper(), part.told(), part.paper()), before)

    def test_groups_told_are_whole_groups(self):
        for group, part in parts_of(OF_FOUR):
            for there in (about(group, (1, 2, 3, 0)), closed(group, part), mixed(group, part), stairs(group)[-1]):
                again = Group(4, there.told())
                self.assertEqual(again.ground(), there.ground())
                self.assertEqual(there.recipe(there.nth(0)), again.recipe(again.nth(0)))
