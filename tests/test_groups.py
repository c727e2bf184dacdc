import itertools
import math
import unittest

from helpers import ANYTHING, GREAT, all_made, loop, mixed_up
from known import ALL, BUILT, CUBE, EVEN, FOUR, LARGE, NO_TURNINGS, ONE_MORE, REGULAR, ROUND, SMALL, SWAP, THOUSAND, read_from_one
from turnbase.errors import NoGroup, NoNumber, NotIn, NoTurning, TooMany
from turnbase.groups import Group, lean
from turnbase.recipes import is_recipe, trimmed, worked
from turnbase.turnings import back, behind, is_even, is_turning, still


def unranked(places, k):
    """The k-th of all orders of these places, rising."""
    left, found = sorted(places), []
    while left:
        rest = math.factorial(len(left) - 1)
        found.append(left.pop(k // rest))
        k %= rest
    return tuple(found)


class MadeTest(unittest.TestCase):
    def refused(self, many, makers):
        with self.assertRaises(NoGroup):
            Group(many, makers)

    def test_the_value_many_and_the_makers_told_again(self):
        for many, makers in SMALL:
            group = Group(many, makers)
            self.assertEqual(group.many, many)
            self.assertEqual(group.told(), makers)
            self.assertIsInstance(group.told(), list)

    def test_alike_makers_and_still_ones_are_told_too(self):
        makers = [(1, 0, 2), still(3), (1, 0, 2), (0, 2, 1), still(3)]
        self.assertEqual(Group(3, makers).told(), makers)

    def test_no_makers_at_all(self):
        for many in (1, 2, 59, 60):
            group = Group(many, [])
            self.assertEqual((group.many, group.told(), group.size(), group.base(), group.ground()), (many, [], 1, [], []))
            self.assertEqual((group.listed(), group.nth(0), group.place_of(still(many))), ([still(many)], still(many), 0))
            self.assertEqual((group.recipe(still(many)), group.paper()[1]), ([("still",)], []))
            self.assertIs(is_recipe(group.paper()[0], 0), True)
            self.assertEqual([group.ring_at(place) for place in range(many)], [[place] for place in range(many)])

    def test_two_hundred_makers_and_more(self):
        makers = [mixed_up(60, seed) for seed in range(199)] + [SWAP]
        group = Group(60, makers)
        self.assertEqual(group.told(), makers)
        self.assertEqual(group.size(), math.factorial(60))
        self.refused(60, makers + [ROUND])
        self.assertEqual(Group(3, [(1, 2, 0)] * 200).size(), 3)
        self.refused(3, [(1, 2, 0)] * 201)
        self.refused(3, [still(3)] * 20000)

    def test_of_the_last_of_two_hundred_makers_too(self):
        group = Group(4, [(1, 0, 2, 3)] * 199 + [(0, 1, 3, 2)])
        self.assertEqual(group.size(), 4)
        lines = group.recipe((0, 1, 3, 2))
        self.assertEqual(worked(lines, group.told(), 4)[-1], (0, 1, 3, 2))

    def test_how_many_places(self):
        for many in ANYTHING + (0, -1, 61, 62, [], [3], (3,), (), "3", 3.0):
            self.refused(many, [])
            self.refused(many, [(1, 2, 0)])
        self.refused(0, [()])
        self.refused(61, [tuple(range(61))])
        self.refused(True, [(0,)])

    def test_what_is_no_list_of_makers(self):
        for makers in ANYTHING + (0, (), ((1, 2, 3, 0),), (1, 2, 3, 0), {(1, 2, 3, 0): 1}, {(1, 2, 3, 0)}, iter([])):
            self.refused(4, makers)

    def test_what_is_no_maker(self):
        for thing in NO_TURNINGS:
            self.refused(4, [thing])
            self.refused(4, [(1, 2, 3, 0), thing])
            self.refused(4, [thing, (1, 2, 3, 0)])


class SmallTest(unittest.TestCase):
    """Whatever is told of small groups, against all their turnings found one by one."""

    def parts(self, found, place):
        return [one for one in found if all(one[lower] == lower for lower in range(place))]

    def test_size_and_turnings(self):
        for many, makers in SMALL:
            group, found = Group(many, makers), all_made(many, makers)
            self.assertEqual(group.size(), len(found))
            self.assertEqual(group.listed(), found)
            self.assertEqual([group.nth(k) for k in range(len(found))], found)
            self.assertEqual([group.place_of(one) for one in found], list(range(len(found))))

    def test_has(self):
        for many, makers in SMALL:
            group, found = Group(many, makers), all_made(many, makers)
            for one in itertools.permutations(range(many)):
                self.assertIs(group.has(one), one in found)

    def test_rings_and_base(self):
        for many, makers in SMALL:
            group, found = Group(many, makers), all_made(many, makers)
            rings = [sorted({one[place] for one in self.parts(found, place)}) for place in range(many)]
            self.assertEqual([group.ring_at(place) for place in range(many)], rings)
            self.assertEqual(group.base(), [place for place in range(many) if len(rings[place]) > 1])
            self.assertEqual(group.size(), math.prod(len(group.ring_at(place)) for place in group.base()))

    def test_lifts_and_ground(self):
        for many, makers in SMALL:
            group, found = Group(many, makers), all_made(many, makers)
            for place, to in itertools.product(range(many), repeat=2):
                taking = [one for one in self.parts(found, place) if one[place] == to]
                if taking:
                    self.assertEqual(group.lift(place, to), min(taking))
                else:
                    with self.assertRaises(NotIn):
                        group.lift(place, to)
            ground = [(place, [group.lift(place, to) for to in group.ring_at(place)]) for place in group.base()]
            self.assertEqual(group.ground(), ground)

    def test_least_of_a_side(self):
        for many, makers in SMALL:
            group, found = Group(many, makers), all_made(many, makers)
            for one in list(itertools.permutations(range(many)))[::7]:
                self.assertEqual(group.least(one), min(behind(h, one) for h in found))

    def test_recipes(self):
        for many, makers in SMALL:
            group = Group(many, makers)
            for one in all_made(many, makers)[::5]:
                lines = group.recipe(one)
                self.assertEqual(worked(lines, makers, many)[-1], one)
                self.assertEqual(trimmed(lines), lines)

    def test_same_grounds_just_where_the_turnings_are_the_same(self):
        told = [(Group(4, makers).ground(), all_made(4, makers)) for many, makers in SMALL if many == 4]
        self.assertGreater(len({tuple(found) for _, found in told}), 20)
        for (ground, found), (other, others) in itertools.combinations(told, 2):
            self.assertIs(ground == other, found == others)


class LargeTest(unittest.TestCase):
    def test_size(self):
        for name, _, _, size in LARGE:
            self.assertEqual(BUILT[name].size(), size, name)
        self.assertEqual(len(str(BUILT["all"].size())), 82)

    def test_base(self):
        self.assertEqual(BUILT["all"].base(), list(range(59)))
        self.assertEqual(BUILT["even"].base(), list(range(58)))
        self.assertEqual(BUILT["halves"].base(), list(range(29)) + list(range(30, 59)))
        self.assertEqual(BUILT["flips"].base(), list(range(0, 60, 2)))
        self.assertEqual(BUILT["pairs"].base(), list(range(0, 60, 2)))
        self.assertEqual(BUILT["regular"].base(), [0])
        self.assertEqual(BUILT["round"].base(), [0])

    def test_rings(self):
        for place in range(60):
            self.assertEqual(BUILT["all"].ring_at(place), list(range(place, 60)))
            self.assertEqual(BUILT["halves"].ring_at(place), list(range(place, 30 if place < 30 else 60)))
            self.assertEqual(BUILT["pairs"].ring_at(place), [place] if place % 2 else list(range(place, 60)))
        self.assertEqual(BUILT["even"].ring_at(57), [57, 58, 59])
        self.assertEqual(BUILT["even"].ring_at(58), [58])
        self.assertEqual(BUILT["round"].ring_at(0), list(range(60)))

    def test_lifts(self):
        for place, to in ((0, 0), (0, 1), (0, 59), (30, 41), (57, 59), (58, 59), (59, 59)):
            rest = [other for other in range(place, 60) if other != to]
            least = tuple(list(range(place)) + [to] + rest)
            self.assertEqual(BUILT["all"].lift(place, to), least)
            self.assertEqual(BUILT["all by chance"].lift(place, to), least)
            if is_even(least):
                self.assertEqual(BUILT["even"].lift(place, to), least)
        self.assertEqual(BUILT["even"].lift(0, 1), (1, 0) + tuple(range(2, 58)) + (59, 58))
        self.assertEqual(BUILT["round"].lift(0, 7), tuple((place + 7) % 60 for place in range(60)))
        self.assertEqual(BUILT["pairs"].lift(0, 5), (5, 4, 0, 1, 2, 3) + tuple(range(6, 60)))

    def test_lifts_that_there_are_not(self):
        for name, place, to in (
            ("all", 1, 0), ("all", 59, 58), ("even", 58, 59), ("halves", 0, 30), ("halves", 31, 30), ("flips", 0, 2), ("flips", 1, 0),
            ("pairs", 1, 2), ("round", 1, 2), ("regular", 59, 0),
        ):
            with self.assertRaises(NotIn):
                BUILT[name].lift(place, to)

    def test_the_same_group_tells_equal_grounds(self):
        self.assertEqual(BUILT["all"].ground(), BUILT["all by chance"].ground())
        self.assertEqual(BUILT["all"].ground(), Group(60, [loop(60, place, place + 1) for place in range(58, -1, -1)]).ground())
        self.assertEqual(BUILT["even"].ground(), Group(60, [loop(60, place, place + 1, place + 2) for place in range(58)]).ground())
        self.assertNotEqual(BUILT["all"].ground(), BUILT["even"].ground())
        self.assertNotEqual(BUILT["flips"].ground(), BUILT["pairs"].ground())
        for name in ("cube", "mathieu", "regular", "tens"):
            group = BUILT[name]
            turns = [group.nth(group.size() * k // 7 + k) for k in range(7)]
            self.assertEqual(Group(group.many, turns + group.told()[::-1]).ground(), group.ground())

    def test_ground_has_for_each_place_of_the_base_the_lifts(self):
        for name in ("cube", "mathieu", "pairs", "all"):
            group = BUILT[name]
            ground = group.ground()
            self.assertEqual([place for place, _ in ground], group.base())
            for place, lifts in ground:
                self.assertEqual([one[place] for one in lifts], group.ring_at(place))
                self.assertEqual(lifts, [group.lift(place, to) for to in group.ring_at(place)])
                self.assertTrue(all(one[:place] == still(place) and group.has(one) for one in lifts))

    def test_has(self):
        odd, other = SWAP, mixed_up(60, 9)
        self.assertIs(BUILT["all"].has(odd), True)
        self.assertIs(BUILT["all"].has(other), True)
        self.assertIs(BUILT["even"].has(odd), False)
        self.assertIs(BUILT["even"].has(other), is_even(other))
        self.assertIs(BUILT["even"].has(behind(other, odd)), not is_even(other))
        self.assertIs(BUILT["halves"].has(loop(60, 29, 30)), False)
        self.assertIs(BUILT["halves"].has(loop(60, 28, 29)), True)
        self.assertIs(BUILT["round"].has(tuple((place + 59) % 60 for place in range(60))), True)
        self.assertIs(BUILT["round"].has(tuple(59 - place for place in range(60))), False)
        # Of the cube: two edges alone can't be exchanged, one corner alone can't be turned.
        self.assertIs(BUILT["cube"].has(read_from_one("(7,18)", 48)), False)
        self.assertIs(BUILT["cube"].has(read_from_one("(6,17,11)", 48)), False)
        self.assertIs(BUILT["cube"].has(read_from_one("(7,18)(2,34)", 48)), True)

    def test_whatever_is_made_lies_in_it(self):
        for name, many, makers, _ in LARGE:
            here = still(many)
            for step in range(40):
                here = behind(here, makers[step * step % len(makers)])
                here = back(here) if step % 5 == 0 else here
                self.assertIs(BUILT[name].has(here), True)

    def test_least_of_a_side(self):
        one = mixed_up(60, 4)
        self.assertEqual(BUILT["all"].least(one), still(60))
        self.assertEqual(BUILT["halves"].least(one), tuple(sorted(one[:30]) + sorted(one[30:])))
        flipped = [sorted(one[place:place + 2]) for place in range(0, 60, 2)]
        self.assertEqual(BUILT["flips"].least(one), tuple(place for pair in flipped for place in pair))
        self.assertEqual(BUILT["pairs"].least(one), tuple(place for pair in sorted(flipped) for place in pair))
        last = still(60) if is_even(one) else loop(60, 58, 59)
        self.assertEqual(BUILT["even"].least(one), last)
        self.assertEqual(BUILT["round"].least(one)[0], 0)

    def test_one_side_just_where_the_least_ones_are_equal(self):
        for name in ("cube", "mathieu", "tens", "even"):
            group = BUILT[name]
            outer = mixed_up(group.many, 5)
            least = group.least(outer)
            self.assertIs(group.has(behind(outer, back(least))), True)
            for k in (1, 7, 50):
                self.assertEqual(group.least(behind(group.nth(group.size() // k - 1), outer)), least)
            odd = behind(loop(group.many, 0, 2), outer)
            self.assertIs(group.least(odd) == least, group.has(behind(odd, back(outer))))

    def test_numbers_of_all_turnings(self):
        for k in (0, 1, 59, math.factorial(60) - 1, math.factorial(60) // 2, 10 ** 81 + 12345, math.factorial(59), math.factorial(59) - 1):
            one = unranked(range(60), k)
            self.assertEqual(BUILT["all"].nth(k), one)
            self.assertEqual(BUILT["all"].place_of(one), k)
            self.assertEqual(BUILT["all by chance"].nth(k), one)
            self.assertEqual(BUILT["all by chance"].place_of(one), k)

    def test_numbers_in_two_halves(self):
        for ahead, behind_it in ((0, 0), (0, 1), (1, 0), (10 ** 30, 10 ** 20), (math.factorial(30) - 1, math.factorial(30) - 1)):
            one = unranked(range(30), ahead) + unranked(range(30, 60), behind_it)
            number = ahead * math.factorial(30) + behind_it
            self.assertEqual(BUILT["halves"].nth(number), one)
            self.assertEqual(BUILT["halves"].place_of(one), number)

    def test_numbers_rise_with_the_turnings(self):
        for name in ("cube", "mathieu", "pairs", "tens", "even", "regular"):
            group = BUILT[name]
            size = group.size()
            numbers = sorted({0, 1, 2, size - 2, size - 1} | {(size * part // 23 + part) % size for part in range(23)})
            turns = [group.nth(number) for number in numbers]
            self.assertEqual(turns, sorted(turns))
            self.assertEqual([group.place_of(one) for one in turns], numbers)
            self.assertEqual(turns[0], still(group.many))
            self.assertTrue(all(is_turning(one) and group.has(one) for one in turns))

    def test_recipes(self):
        for name, many, makers, size in LARGE:
            for k in (0, 1, size // 3, size - 1):
                one = BUILT[name].nth(k)
                lines = BUILT[name].recipe(one)
                self.assertIs(is_recipe(lines, len(makers)), True)
                self.assertEqual(trimmed(lines), lines)
                self.assertEqual(worked(lines, makers, many)[-1], one)
            for maker in makers:
                self.assertEqual(worked(BUILT[name].recipe(maker), makers, many)[-1], maker)

    def test_listed(self):
        self.assertEqual(BUILT["regular"].listed(), all_made(60, REGULAR))
        self.assertEqual(BUILT["round"].listed(), sorted(tuple((place + k) % 60 for place in range(60)) for k in range(60)))
        for name in ("all", "even", "halves", "flips", "cube", "mathieu"):
            with self.assertRaises(TooMany):
                BUILT[name].listed()

    def test_a_thousand_turnings_and_one_more(self):
        group = Group(30, THOUSAND)
        self.assertEqual(group.size(), 1000)
        self.assertEqual(group.listed(), all_made(30, THOUSAND))
        more = Group(31, ONE_MORE)
        self.assertEqual(more.size(), 1001)
        with self.assertRaises(TooMany):
            more.listed()
        self.assertEqual(more.nth(1000), all_made(31, ONE_MORE)[1000])


class PaperTest(unittest.TestCase):
    def hold(self, group):
        paper = group.paper()
        self.assertIsInstance(paper, tuple)
        lines, steps = paper
        self.assertIs(is_recipe(lines, len(group.told())), True)
        self.assertIsInstance(steps, list)
        made = worked(lines, group.told(), group.many)
        self.assertEqual([place for place, _ in steps], group.base())
        for step in steps:
            self.assertIsInstance(step, tuple)
            place, lifts = step
            self.assertIsInstance(lifts, list)
            self.assertEqual([to for to, _ in lifts], group.ring_at(place))
            for lift in lifts:
                self.assertIsInstance(lift, tuple)
                to, line = lift
                self.assertEqual(made[line][:place + 1], still(place) + (to,))
                self.assertTrue(to != place or made[line] == still(group.many))

    def test_small_groups(self):
        for many, makers in SMALL:
            self.hold(Group(many, makers))

    def test_large_groups(self):
        for name, _, _, _ in LARGE:
            self.hold(BUILT[name])


class RefusedTest(unittest.TestCase):
    GROUPS = (Group(4, []), Group(4, [(1, 2, 3, 0)]), Group(4, [(1, 2, 3, 0), (1, 0, 2, 3)]))

    def test_what_is_no_turning_of_its_places(self):
        for group in self.GROUPS:
            for thing in NO_TURNINGS:
                self.assertIs(group.has(thing), False)
                with self.assertRaises(NotIn):
                    group.place_of(thing)
                with self.assertRaises(NotIn):
                    group.recipe(thing)
                with self.assertRaises(NoTurning):
                    group.least(thing)

    def test_turnings_that_are_not_in_the_group(self):
        for group in self.GROUPS[:2]:
            for thing in ((1, 0, 2, 3), (0, 1, 3, 2), (3, 2, 1, 0)):
                self.assertIs(group.has(thing), False)
                with self.assertRaises(NotIn):
                    group.place_of(thing)
                with self.assertRaises(NotIn):
                    group.recipe(thing)
        for thing in (SWAP, loop(60, 58, 59)):
            with self.assertRaises(NotIn):
                BUILT["even"].place_of(thing)
            with self.assertRaises(NotIn):
                BUILT["even"].recipe(thing)

    def test_numbers_that_are_none(self):
        for group in self.GROUPS + (BUILT["all"], BUILT["cube"]):
            for k in ANYTHING + (-1, -2, group.size(), group.size() + 1, -group.size(), GREAT, "1", 0.5, [], (), [0], (0,), still(4)):
                with self.assertRaises(NoNumber):
                    group.nth(k)

    def test_turnings_of_fewer_and_more_places(self):
        for thing in (still(59), tuple(range(61)), still(1)):
            self.assertIs(BUILT["all"].has(thing), False)
            with self.assertRaises(NoTurning):
                BUILT["all"].least(thing)
        with self.assertRaises(NoTurning):
            Group(1, []).least((1, 0))


class LeanTest(unittest.TestCase):
    def test_known_ones(self):
        one, other = (1, 2, 0, 3), (0, 1, 3, 2)
        self.assertEqual(lean(4, []), [])
        self.assertEqual(lean(4, [still(4)]), [])
        self.assertEqual(lean(4, [one, one, back(one), still(4)]), [one])
        self.assertEqual(lean(4, [still(4), back(one), one, other, behind(one, other)]), [back(one), other])
        self.assertEqual(lean(4, [other, one, (1, 2, 3, 0)]), [other, one])
        self.assertEqual(lean(1, [(0,), (0,)]), [])

    def test_not_in_the_group_of_the_ones_ahead(self):
        told = [makers for many, makers in SMALL if many == 4] + [[mixed_up(4, seed + k) for k in range(6)] for seed in range(40)]
        for makers in told:
            wanted = [maker for number, maker in enumerate(makers) if maker not in all_made(4, makers[:number])]
            self.assertEqual(lean(4, makers), wanted)

    def test_each_of_many_that_are_not_made_by_those_ahead(self):
        makers = [loop(60, place, place + 1) for place in range(59)]
        self.assertEqual(lean(60, makers), makers)
        self.assertEqual(lean(60, makers + ALL), makers)
        self.assertEqual(lean(60, ALL + makers), ALL)
        self.assertEqual(lean(60, EVEN + ALL + makers), EVEN + [ROUND])

    def test_never_more_than_ninety(self):
        found = []

        def climb(first, many):
            """Makers each of which reaches a larger group than all ahead of it."""
            half = many // 2
            if many > 1:
                climb(first, half)
                climb(first + half, half)
                found.append(tuple(
                    place + half if first <= place < first + half else place - half if first + half <= place < first + 2 * half else place
                    for place in range(60)
                ))
                found.append(loop(60, first, first + many - 1))
                found.append(loop(60, first, first + half))

        climb(0, 60)
        self.assertGreater(len(lean(60, found)), 59)
        self.assertLessEqual(len(lean(60, found)), 90)
        self.assertEqual(Group(60, lean(60, found)).ground(), BUILT["all"].ground())

    def test_more_than_two_hundred_turnings(self):
        many = [behind(mixed_up(30, seed) + tuple(range(30, 60)), loop(60, 30 + seed % 7, 40)) for seed in range(1500)]
        few = lean(60, many)
        self.assertLessEqual(len(few), 90)
        group = Group(60, few)
        self.assertTrue(all(group.has(one) for one in many))
        self.assertEqual(few, [one for one in many if one in few][:len(few)])

    def test_the_same_group_is_made_of_the_lean_ones(self):
        for name, many, makers, _ in LARGE:
            if name not in ("all by chance", "even"):
                self.assertEqual(Group(many, lean(many, makers + makers[::-1])).ground(), BUILT[name].ground())


class HandedInAndToldTest(unittest.TestCase):
    MAKERS = [(1, 2, 0, 3), (0, 1, 3, 2), (1, 2, 0, 3)]

    def asked(self, group):
        return (
            group.told, group.base, lambda: group.ring_at(0), group.ground, group.listed, lambda: group.recipe((1, 0, 2, 3)),
            lambda: group.paper()[0], lambda: group.paper()[1], lambda: lean(4, self.MAKERS), lambda: group.ground()[0][1],
            lambda: group.paper()[1][0][1], lambda: group.ground()[1][1], lambda: group.paper()[1][-1][1],
            lambda: group.recipe(still(4)), lambda: group.recipe((1, 2, 0, 3)),
        )

    def test_a_told_list_is_the_askers_own(self):
        group = Group(4, self.MAKERS)
        for ask in self.asked(group):
            before = repr([again() for again in self.asked(group)])
            told = ask()
            self.assertIsInstance(told, list)
            told.append("more")
            told[0] = "other"
            self.assertEqual(repr([again() for again in self.asked(group)]), before)
            self.assertEqual(repr([again() for again in self.asked(Group(4, self.MAKERS))]), before)

    def test_what_was_told_is_not_changed_by_asking_more(self):
        group = Group(4, self.MAKERS)
        told = [ask() for ask in self.asked(group)]
        before = repr(told)
        for one in FOUR:
            group.recipe(one)
            group.least(one)
        self.assertEqual(repr([ask() for ask in self.asked(group)]), before)
        self.assertEqual(repr(told), before)

    def test_lists_handed_in_stay_as_they_were(self):
        makers = list(self.MAKERS)
        group = Group(4, makers)
        for ask in self.asked(group):
            ask()
        lean(4, makers)
        self.assertEqual(makers, self.MAKERS)

    def test_what_is_done_behind_the_call_changes_nothing(self):
        makers = list(self.MAKERS)
        group = Group(4, makers)
        few = lean(4, makers)
        before = repr([ask() for ask in self.asked(group)])
        makers.clear()
        makers.append("other")
        self.assertEqual(repr([ask() for ask in self.asked(group)]), before)
        self.assertEqual(few, self.MAKERS[:2])
        self.assertEqual(worked(group.recipe((1, 0, 2, 3)), group.told(), 4)[-1], (1, 0, 2, 3))

    def test_the_same_each_time(self):
        one, other = Group(48, CUBE), BUILT["cube"]
        self.assertEqual(one.paper(), other.paper())
        self.assertEqual(one.recipe(one.nth(10 ** 18)), other.recipe(other.nth(10 ** 18)))
