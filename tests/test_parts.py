import itertools
import math
import unittest

from helpers import ANYTHING, all_made, by_blocks, loop, mixed_up
from known import BUILT, FOUR, ONE_MORE, SMALL, THOUSAND
from turnbase.acts import Lists, Sides
from turnbase.errors import NoGroup, NoThing, NotPart, TooMany
from turnbase.groups import Group
from turnbase.parts import common, fixing, is_part, joined, same, shadow, sides
from turnbase.rings import Ring
from turnbase.turnings import behind, is_even, is_turning, still

# Each group of four places once, and further ones: made in several ways.
OF_FOUR = [(Group(4, makers), all_made(4, makers)) for many, makers in SMALL if many == 4][::5]
OF_SIX = [(Group(6, makers), all_made(6, makers)) for many, makers in SMALL if many == 6]
WHOLE, ALONE = Group(4, [(1, 2, 3, 0), (1, 0, 2, 3)]), Group(4, [])
ALL_OF_FIVE = Group(5, [loop(5, *range(5)), loop(5, 0, 1)])
ALONE_OF_SIXTY = Group(60, [])


def groups_of_four():
    """All pairs of groups of four places, each with its turnings."""
    return itertools.product(OF_FOUR + [(WHOLE, FOUR), (ALONE, [still(4)])], repeat=2)


class IsPartTest(unittest.TestCase):
    def test_against_all_turnings(self):
        for (one, found), (other, others) in groups_of_four():
            self.assertIs(is_part(one, other), set(found) <= set(others))
            self.assertIs(same(one, other), found == others)

    def test_just_where_they_tell_equal_grounds(self):
        for (one, _), (other, _) in itertools.product(OF_FOUR + OF_SIX, repeat=2):
            if one.many == other.many:
                self.assertIs(same(one, other), one.ground() == other.ground())

    def test_the_whole_group_and_the_still_turning_alone(self):
        for group, _ in OF_FOUR:
            self.assertIs(is_part(group, group), True)
            self.assertIs(is_part(ALONE, group), True)
            self.assertIs(is_part(group, WHOLE), True)
            self.assertIs(same(group, Group(4, list(reversed(group.told())))), True)

    def test_unlike_many(self):
        for one, other in itertools.permutations((Group(1, []), Group(2, []), ALONE, WHOLE, ALL_OF_FIVE, ALONE_OF_SIXTY), 2):
            if one.many != other.many:
                self.assertIs(is_part(one, other), False)
                self.assertIs(same(one, other), False)

    def test_groups_far_too_large_to_be_listed(self):
        within = {
            ("even", "all"), ("halves", "all"), ("flips", "all"), ("pairs", "all"), ("tens", "all"), ("regular", "all"), ("round", "all"),
            ("flips", "pairs"), ("flips", "tens"), ("flips", "halves"), ("regular", "even"), ("all by chance", "all"), ("all", "all by chance"),
        }
        names = ("all", "even", "halves", "flips", "pairs", "tens", "regular", "round", "all by chance")
        for one, other in itertools.permutations(names, 2):
            expected = (one, other) in within or other == "all by chance"
            self.assertIs(is_part(BUILT[one], BUILT[other]), expected, (one, other))
            self.assertIs(same(BUILT[one], BUILT[other]), {one, other} == {"all", "all by chance"})


class JoinedTest(unittest.TestCase):
    def test_against_all_turnings(self):
        for (one, _), (other, _) in groups_of_four():
            group = joined(one, other)
            self.assertIsInstance(group, Group)
            self.assertEqual(group.listed(), all_made(4, one.told() + other.told()))

    def test_however_many_makers_these_are_together(self):
        many = Group(60, [loop(60, place % 29, 29) for place in range(200)])
        others = Group(60, [loop(60, 30 + place % 29, 59) for place in range(200)])
        self.assertTrue(same(joined(many, others), BUILT["halves"]))
        self.assertTrue(same(joined(joined(many, others), Group(60, [loop(60, 29, 30)] * 200)), BUILT["all"]))

    def test_lean_and_still_ones(self):
        self.assertEqual(joined(ALONE, ALONE).size(), 1)
        self.assertEqual(joined(Group(1, []), Group(1, [(0,)] * 200)).size(), 1)
        for name in ("halves", "cube", "tens"):
            alone = Group(BUILT[name].many, [])
            self.assertEqual(joined(BUILT[name], alone).ground(), BUILT[name].ground())
            self.assertEqual(joined(alone, BUILT[name]).ground(), BUILT[name].ground())

    def test_great_ones(self):
        self.assertTrue(same(joined(BUILT["halves"], BUILT["round"]), BUILT["all"]))
        self.assertTrue(same(joined(BUILT["even"], BUILT["regular"]), BUILT["even"]))
        self.assertTrue(same(joined(BUILT["pairs"], BUILT["flips"]), BUILT["pairs"]))
        self.assertEqual(joined(BUILT["flips"], Group(60, [by_blocks(loop(30, *range(30)), 2)])).size(), 2 ** 30 * 30)

    def test_unlike_many(self):
        for one, other in itertools.permutations((Group(1, []), ALONE, WHOLE, ALL_OF_FIVE, ALONE_OF_SIXTY, BUILT["all"]), 2):
            if one.many != other.many:
                with self.assertRaises(NoGroup):
                    joined(one, other)


class CommonTest(unittest.TestCase):
    def test_against_all_turnings(self):
        for (one, found), (other, others) in groups_of_four():
            group = common(one, other)
            self.assertIsInstance(group, Group)
            self.assertEqual(group.listed(), sorted(set(found) & set(others)))
        for (one, found), (other, others) in itertools.product(OF_SIX, repeat=2):
            self.assertEqual(common(one, other).listed(), sorted(set(found) & set(others)))

    def test_just_so_many_times_as_large_and_more(self):
        for (one, found), (other, others) in list(groups_of_four())[::7]:
            times = len(found) // len(set(found) & set(others))
            for most in {times, times + 1, 24}:
                if most >= times:
                    self.assertEqual(common(one, other, most).size() * times, one.size())
            for most in {1, times - 1}:
                if 0 < most < times:
                    with self.assertRaises(TooMany):
                        common(one, other, most)

    def test_a_thousand_times_and_more(self):
        self.assertEqual(common(Group(30, THOUSAND), Group(30, [])).size(), 1)
        with self.assertRaises(TooMany):
            common(Group(30, THOUSAND), Group(30, []), 999)
        with self.assertRaises(TooMany):
            common(Group(31, ONE_MORE), Group(31, []))
        # It hangs on the first one's size alone.
        self.assertEqual(common(Group(31, []), Group(31, ONE_MORE), 1).size(), 1)
        self.assertEqual(common(Group(60, []), BUILT["all"], 1).size(), 1)
        with self.assertRaises(TooMany):
            common(BUILT["all"], Group(60, []))

    def test_great_ones(self):
        for one, other, size in (
            ("all", "even", math.factorial(60) // 2), ("even", "all", math.factorial(60) // 2), ("halves", "even", math.factorial(30) ** 2 // 2),
            ("flips", "even", 2 ** 29), ("pairs", "even", 2 ** 29 * math.factorial(30)), ("pairs", "flips", None), ("flips", "pairs", 2 ** 30),
            ("regular", "round", None), ("regular", "even", 60), ("round", "regular", None), ("tens", "halves", math.factorial(10) ** 6 * 36),
            ("round", "even", 30), ("round", "pairs", 30), ("round", "tens", 6), ("halves", "pairs", None),
        ):
            if size is None and one in ("pairs", "halves"):
                with self.assertRaises(TooMany):
                    common(BUILT[one], BUILT[other])
                continue
            group = common(BUILT[one], BUILT[other])
            self.assertTrue(is_part(group, BUILT[one]) and is_part(group, BUILT[other]), (one, other))
            if size is None:
                size = len(set(BUILT[one].listed()) & set(BUILT[other].listed()))
            self.assertEqual(group.size(), size, (one, other))

    def test_unlike_many_comes_ahead_of_too_many(self):
        for one, other in itertools.permutations((Group(1, []), ALONE, WHOLE, ALL_OF_FIVE, ALONE_OF_SIXTY, BUILT["all"]), 2):
            if one.many != other.many:
                for most in (1, 1000):
                    with self.assertRaises(NoGroup):
                        common(one, other, most)

    def test_two_hundred_makers(self):
        group = Group(30, [mixed_up(30, seed) for seed in range(199)] + [loop(30, 0, 1)])
        self.assertEqual(common(group, fixing(group, [7])).size(), math.factorial(29))


class FixingTest(unittest.TestCase):
    def test_against_all_turnings(self):
        for group, found in OF_FOUR + OF_SIX + [(Group(5, []), [still(5)])]:
            for length in range(4):
                for places in list(itertools.product(range(group.many), repeat=length))[::3]:
                    keeping = [one for one in found if all(one[place] == place for place in places)]
                    self.assertEqual(fixing(group, places).listed(), keeping)
                    self.assertEqual(fixing(group, list(places)).ground(), fixing(group, places).ground())

    def test_no_places_and_all_places(self):
        for name in ("all", "cube", "mathieu", "tens", "regular"):
            group = BUILT[name]
            for none in ([], ()):
                self.assertEqual(fixing(group, none).ground(), group.ground())
            self.assertEqual(fixing(group, list(range(group.many))).size(), 1)
            self.assertEqual(fixing(group, tuple(range(group.many - 1, -1, -1))).size(), 1)
        self.assertEqual((fixing(Group(1, []), [0]).size(), fixing(Group(1, [(0,)]), []).size()), (1, 1))
        self.assertEqual(fixing(Group(2, [(1, 0)]), [1]).size(), 1)

    def test_groups_far_too_large_to_be_listed(self):
        for name, places, size in (
            ("all", [59], math.factorial(59)), ("all", [3, 59, 7, 3, 59], math.factorial(57)), ("all", list(range(0, 60, 2)), math.factorial(30)),
            ("even", [0, 59], math.factorial(58) // 2), ("even", list(range(2, 59)), 3), ("all", list(range(2, 60)), 2),
            ("halves", list(range(30, 60)), math.factorial(30)), ("flips", [59], 2 ** 29), ("flips", list(range(40)), 2 ** 10),
            ("pairs", [59], 2 ** 29 * math.factorial(29)), ("tens", [0, 59], math.factorial(9) ** 2 * math.factorial(10) ** 4 * 24),
            ("mathieu", [23, 11], 443520), ("mathieu", [23, 11, 5, 2, 0], 48), ("regular", [17], 1), ("round", [30], 1),
        ):
            group = fixing(BUILT[name], places)
            self.assertEqual(group.size(), size, (name, places))
            self.assertTrue(is_part(group, BUILT[name]))
            self.assertTrue(all(maker[place] == place for maker in group.told() for place in places))

    def test_the_ring_of_the_list_tells_the_same(self):
        for name, places in (("mathieu", [4, 20]), ("cube", [40]), ("halves", [31, 2]), ("tens", [59])):
            group = BUILT[name]
            ground = fixing(group, places).ground()
            self.assertEqual(fixing(group, list(reversed(places)) * 2).ground(), ground)
            self.assertEqual(Ring(group, Lists(group.many), places).keepers().ground(), ground)

    def test_sixty_alike_places_and_more(self):
        self.assertEqual(fixing(WHOLE, [2] * 60).size(), 6)
        self.assertEqual(fixing(WHOLE, (2, 1) * 30).size(), 2)
        for places in ([2] * 61, (2,) * 61, [0, 1] * 31, list(range(60)) + [0]):
            with self.assertRaises(NoThing):
                fixing(WHOLE, places)
        with self.assertRaises(NoThing):
            fixing(BUILT["all"], list(range(60)) + [0])

    def test_what_is_no_row_of_places(self):
        for places in ANYTHING + (0, 3, [4], (4,), [0, 4], [0, 1, -1], [[0]], ((0,),), [0, [1]], "01", {1: 2}, {1, 2}, iter([1])):
            with self.assertRaises(NoThing):
                fixing(WHOLE, places)
            with self.assertRaises(NoThing):
                fixing(ALONE, places)


class SidesTest(unittest.TestCase):
    def test_against_all_turnings(self):
        for (group, found), (part, parts) in groups_of_four():
            if not set(parts) <= set(found):
                continue
            leasts = sorted({min(behind(h, one) for h in parts) for one in found})
            self.assertEqual(sides(group, part), leasts)
            self.assertEqual(len(leasts) * part.size(), group.size())

    def test_the_whole_group_and_the_still_turning_alone(self):
        for group, found in OF_FOUR + OF_SIX:
            self.assertEqual(sides(group, group), [still(group.many)])
            self.assertEqual(sides(group, group, 1), [still(group.many)])
            self.assertEqual(sides(group, Group(group.many, [])), found)
        self.assertEqual(sides(Group(1, []), Group(1, [])), [(0,)])

    def test_what_is_no_part(self):
        for (group, found), (part, parts) in groups_of_four():
            if not set(parts) <= set(found):
                for most in (1, 1000):
                    with self.assertRaises(NotPart):
                        sides(group, part, most)
                with self.assertRaises(NotPart):
                    shadow(group, part)
        for group, part in ((WHOLE, Group(3, [])), (WHOLE, ALL_OF_FIVE), (ALL_OF_FIVE, ALONE), (BUILT["all"], Group(59, [])), (ALONE, WHOLE)):
            with self.assertRaises(NotPart):
                sides(group, part)
            with self.assertRaises(NotPart):
                shadow(group, part)

    def test_just_as_many_as_may_be_and_one_more(self):
        self.assertEqual(len(sides(WHOLE, Group(4, [(1, 2, 3, 0)]), 6)), 6)
        with self.assertRaises(TooMany):
            sides(WHOLE, Group(4, [(1, 2, 3, 0)]), 5)
        self.assertEqual(len(sides(Group(30, THOUSAND), Group(30, []))), 1000)
        self.assertEqual(len(sides(Group(30, THOUSAND), Group(30, THOUSAND[:1]), 100)), 100)
        with self.assertRaises(TooMany):
            sides(Group(30, THOUSAND), Group(30, []), 999)
        with self.assertRaises(TooMany):
            sides(Group(31, ONE_MORE), Group(31, []))
        with self.assertRaises(TooMany):
            sides(BUILT["all"], BUILT["halves"])

    def test_groups_far_too_large_to_be_listed(self):
        self.assertEqual(sides(BUILT["all"], BUILT["even"]), [still(60), tuple(range(58)) + (59, 58)])
        self.assertEqual(sides(BUILT["all"], BUILT["all by chance"], 1), [still(60)])
        found = sides(BUILT["all"], fixing(BUILT["all"], [59]))
        # What keeps the last place: its sides are told apart by where the last place goes.
        self.assertEqual(found, sorted(tuple(place for place in range(60) if place != to) + (to,) for to in range(60)))
        self.assertEqual(len(sides(BUILT["mathieu"], fixing(BUILT["mathieu"], [0, 1]))), 552)

    def test_two_hundred_makers(self):
        group = Group(20, [mixed_up(20, seed) for seed in range(199)] + [loop(20, 0, 1)])
        self.assertEqual(len(sides(group, fixing(group, [7]))), 20)
        found = shadow(group, fixing(group, [7]))
        self.assertEqual(len(found), 200)
        self.assertEqual(Group(20, found).size(), math.factorial(20))


class ShadowTest(unittest.TestCase):
    def test_against_the_act_of_sides(self):
        for (group, found), (part, parts) in groups_of_four():
            if not set(parts) <= set(found):
                continue
            listed, act = sides(group, part), Sides(part)
            turnings = shadow(group, part)
            self.assertIsInstance(turnings, list)
            self.assertEqual(len(turnings), len(group.told()))
            for turning, maker in zip(turnings, group.told()):
                self.assertTrue(is_turning(turning) and len(turning) == len(listed))
                self.assertEqual([act.moved(side, maker) for side in listed], [listed[turning[k]] for k in range(len(listed))])

    def test_one_turning_for_each_maker_alike_ones_too(self):
        group = Group(4, [(1, 0, 2, 3), still(4), (1, 2, 3, 0), (1, 0, 2, 3)])
        turnings = shadow(group, Group(4, [(1, 2, 0, 3), (0, 2, 3, 1)]))
        self.assertEqual(turnings, [(1, 0), (0, 1), (1, 0), (1, 0)])
        self.assertEqual(shadow(group, group), [(0,)] * 4)

    def test_the_sides_of_what_keeps_a_place_go_as_the_places_do(self):
        for name in ("all", "mathieu", "regular"):
            group = BUILT[name]
            keeping = fixing(group, [0])
            found = sides(group, keeping)
            # The side number k is of the turnings that take 0 to found[k][0].
            for turning, maker in zip(shadow(group, keeping), group.told()):
                self.assertEqual([found[turning[k]][0] for k in range(len(found))], [maker[side[0]] for side in found])

    def test_no_makers(self):
        for many in (1, 60):
            self.assertEqual(shadow(Group(many, []), Group(many, [])), [])

    def test_sixty_sides_and_more(self):
        round_of_sixty = BUILT["round"]
        self.assertEqual(shadow(round_of_sixty, ALONE_OF_SIXTY), [tuple(range(1, 60)) + (0,)])
        self.assertEqual(len(shadow(BUILT["regular"], ALONE_OF_SIXTY)), 2)
        # No group of up to sixty places has sixty-one sides of a part, since 61 is no product of lesser numbers.
        more = Group(33, [loop(33, *range(31)), loop(33, 31, 32)])
        self.assertEqual(len(sides(more, Group(33, []))), 62)
        with self.assertRaises(TooMany):
            shadow(more, Group(33, []))
        with self.assertRaises(TooMany):
            shadow(BUILT["all"], ALONE_OF_SIXTY)

    def test_even_and_odd_of_sixty_places(self):
        for name in ("all", "all by chance"):
            turnings = shadow(BUILT[name], BUILT["even"])
            self.assertEqual(turnings, [(0, 1) if is_even(maker) else (1, 0) for maker in BUILT[name].told()])


class HandedInAndToldTest(unittest.TestCase):
    def test_told_lists_are_the_askers_own(self):
        part = Group(4, [(1, 0, 2, 3)])
        for ask in (lambda: sides(WHOLE, part), lambda: shadow(WHOLE, Group(4, [(1, 2, 3, 0)])), lambda: joined(WHOLE, part).told()):
            before = ask()
            told = ask()
            told.append("more")
            told[0] = "other"
            self.assertEqual(ask(), before)

    def test_what_is_handed_in_stays_and_may_be_changed_behind(self):
        places = [3, 1, 3]
        group = fixing(WHOLE, places)
        self.assertEqual(places, [3, 1, 3])
        places.clear()
        self.assertEqual((group.size(), group.listed()), (2, [(0, 1, 2, 3), (2, 1, 0, 3)]))

    def test_groups_handed_in_stay(self):
        one, other = Group(6, OF_SIX[0][0].told()), Group(6, OF_SIX[1][0].told() + [still(6)])
        before = (one.told(), one.paper(), other.told(), other.paper())
        for made in (joined(one, other), common(one, other), fixing(one, [0]), fixing(other, [])):
            joined(made, one)
            fixing(made, [1])
            sides(made, Group(6, []))
        shadow(one, one)
        self.assertEqual((one.told(), one.paper(), other.told(), other.paper()), before)

    def test_groups_told_are_whole_groups(self):
        for (one, _), (other, _) in itertools.product(OF_SIX, repeat=2):
            for group in (joined(one, other), common(one, other), fixing(one, [2, 5])):
                again = Group(6, group.told())
                self.assertEqual(again.ground(), group.ground())
                turning = group.nth(group.size() - 1)
                self.assertEqual(again.place_of(turning), group.size() - 1)
                self.assertEqual(Group(6, group.told()).recipe(turning), again.recipe(turning))
