import itertools
import math
import unittest

from helpers import ANYTHING, all_made, by_blocks, loop, mixed_up
from known import BUILT, LARGE, NO_TURNINGS, ONE_MORE, SMALL, THOUSAND
from turnbase.acts import Act, Lists, Nets, Places, Sets, Sides, Turns
from turnbase.errors import NoThing, NotIn, TooMany
from turnbase.groups import Group
from turnbase.rings import Ring
from turnbase.turnings import behind, still

ALL_OF_FOUR = Group(4, [(1, 2, 3, 0), (1, 0, 2, 3)])
ROUND_OF_SIX = Group(6, [(1, 2, 3, 4, 5, 0)])


def acts_and_things(many):
    """For each act some things of these places, told in other forms than their own where there are such."""
    last, part = many - 1, Group(many, [loop(many, 0, many - 1)] if many > 1 else [])
    found = [(Places(many), 0), (Places(many), last), (Lists(many), []), (Lists(many), [last, 0, last]), (Sets(many), [])]
    found += [(Sets(many), list(range(many))), (Nets(many), []), (Turns(many), still(many)), (Turns(many), mixed_up(many, 5))]
    found += [(Sides(part), still(many)), (Sides(part), mixed_up(many, 7))]
    if many > 1:
        found += [(Sets(many), [last, 0]), (Nets(many), [[last, 0]])]
    if many > 3:
        found += [(Nets(many), [(1, 0), (2, 1), (3, 0)]), (Nets(many), [(3, 1), [0, 2]]), (Lists(many), (2, 3))]
    return found


def least_shortest_ways(act, own, makers, count):
    """For each thing the least of the shortest ways to it, found by trying all ways, the shorter ones first."""
    found = {}
    for length in itertools.count():
        for way in itertools.product(range(len(makers)), repeat=length):
            here = own
            for number in way:
                here = act.moved(here, makers[number])
            found.setdefault(here, list(way))
        if len(found) == count:
            return found


class SmallTest(unittest.TestCase):
    """Whatever a ring tells of small groups, against all their turnings found one by one."""

    def rings(self):
        for many, makers in SMALL[::11] + SMALL[-15:]:
            found = all_made(many, makers)
            for act, thing in acts_and_things(many):
                yield Group(many, makers), found, act, thing

    def test_things(self):
        for group, found, act, thing in self.rings():
            things = Ring(group, act, thing).things()
            self.assertEqual(things, sorted({act.moved(act.looked(thing), one) for one in found}))
            self.assertIsInstance(things, list)

    def test_keepers(self):
        for group, found, act, thing in self.rings():
            ring = Ring(group, act, thing)
            keepers = ring.keepers()
            self.assertIsInstance(keepers, Group)
            self.assertEqual(keepers.listed(), [one for one in found if act.kept(thing, one)])
            self.assertEqual(keepers.size() * len(ring.things()), group.size())
            # Made again of the makers that it tells, it is the same.
            self.assertEqual(Group(group.many, keepers.told()).ground(), keepers.ground())

    def test_bringers(self):
        for group, _, act, thing in self.rings():
            ring = Ring(group, act, thing)
            for there in ring.things():
                made = still(group.many)
                for number in ring.way(there):
                    made = behind(made, group.told()[number])
                self.assertEqual(ring.bringer(there), made)
                self.assertEqual(act.moved(act.looked(thing), made), there)
                self.assertEqual(ring.far(there), len(ring.way(there)))


class WayTest(unittest.TestCase):
    MAKERS = (
        [(1, 2, 3, 0), (1, 0, 2, 3)], [(1, 0, 2, 3), (1, 2, 3, 0)], [(0, 2, 1, 3), (1, 0, 2, 3), (0, 1, 3, 2)],
        [(1, 2, 3, 0), (3, 0, 1, 2)], [(3, 0, 1, 2), (1, 2, 3, 0), (2, 3, 0, 1)], [still(4), (1, 0, 2, 3), (1, 0, 2, 3), (1, 2, 3, 0)],
        [mixed_up(4, 8), mixed_up(4, 9), mixed_up(4, 10)],
    )

    def test_the_least_of_the_shortest_ways(self):
        for makers in self.MAKERS:
            group = Group(4, makers)
            for act, thing in ((Places(4), 2), (Lists(4), [3, 1]), (Sets(4), [0, 2]), (Nets(4), [(0, 1), (1, 2)]), (Turns(4), (1, 0, 2, 3))):
                ring = Ring(group, act, thing)
                ways = least_shortest_ways(act, act.looked(thing), makers, len(ring.things()))
                self.assertEqual({there: ring.way(there) for there in ring.things()}, ways)

    def test_makers_alone_and_not_their_backs(self):
        ring = Ring(ROUND_OF_SIX, Places(6), 1)
        self.assertEqual(ring.way(0), [0, 0, 0, 0, 0])
        self.assertEqual(ring.far(0), 5)
        self.assertEqual(ring.bringer(0), (5, 0, 1, 2, 3, 4))

    def test_the_ring_s_own_thing(self):
        for act, thing in acts_and_things(4):
            ring = Ring(ALL_OF_FOUR, act, thing)
            self.assertEqual((ring.way(thing), ring.far(thing), ring.bringer(thing)), ([], 0, still(4)))
            self.assertIsInstance(ring.way(thing), list)

    def test_of_alike_makers_the_first(self):
        ring = Ring(Group(4, [still(4), (1, 2, 3, 0), (1, 2, 3, 0)]), Places(4), 0)
        self.assertEqual(ring.way(3), [1, 1, 1])

    def test_a_shorter_way_by_a_later_maker(self):
        ring = Ring(Group(6, [(1, 2, 3, 4, 5, 0), (3, 4, 5, 0, 1, 2)]), Places(6), 0)
        self.assertEqual([ring.way(place) for place in range(6)], [[], [0], [0, 0], [1], [0, 1], [0, 0, 1]])

    def test_a_thing_in_another_form(self):
        sets = Ring(ALL_OF_FOUR, Sets(4), [3, 1])
        self.assertEqual(sets.way([0, 2]), sets.way((2, 0)))
        self.assertEqual(sets.way((1, 3)), [])
        nets = Ring(ALL_OF_FOUR, Nets(4), [(0, 1), (1, 2)])
        self.assertEqual(nets.bringer([[3, 2], [2, 1]]), nets.bringer(((1, 2), (2, 3))))
        self.assertEqual(Ring(ALL_OF_FOUR, Lists(4), [0, 1]).far([1, 0]), Ring(ALL_OF_FOUR, Lists(4), (0, 1)).far((1, 0)))
        part = Group(4, [(1, 0, 2, 3)])
        sides = Ring(ALL_OF_FOUR, Sides(part), (1, 0, 2, 3))
        for one in ALL_OF_FOUR.listed():
            self.assertEqual(sides.way(one), sides.way(part.least(one)))
            self.assertEqual(sides.far(behind((1, 0, 2, 3), one)), sides.far(one))

    def test_a_long_way(self):
        # The first maker alone takes the list through all its things.
        ring = Ring(Group(31, [behind(behind(ONE_MORE[0], ONE_MORE[1]), loop(31, *range(18, 30)))]), Lists(31), [0, 7, 18], 1000)
        self.assertEqual(len(ring.things()), 7 * 11 * 12)
        self.assertEqual(ring.far([6, 17, 29]), 7 * 11 * 12 - 1)
        self.assertEqual(ring.way([6, 17, 29]), [0] * 923)


class HowManyTest(unittest.TestCase):
    def test_just_as_many_as_may_be_and_one_more(self):
        for act, thing, count in (
            (Places(4), 1, 4), (Lists(4), [0, 1], 12), (Sets(4), [0, 1], 6), (Nets(4), [(0, 1), (2, 3)], 3), (Turns(4), (1, 2, 0, 3), 8),
            (Sides(Group(4, [(1, 2, 3, 0)])), still(4), 6), (Lists(4), [], 1), (Turns(4), still(4), 1),
        ):
            for most in (count, count + 1, 1000):
                self.assertEqual(len(Ring(ALL_OF_FOUR, act, thing, most).things()), count)
            self.assertEqual(Ring(ALL_OF_FOUR, act, thing, count).keepers().size(), 24 // count)
            for most in {1, count - 1} - {0, count}:
                with self.assertRaises(TooMany):
                    Ring(ALL_OF_FOUR, act, thing, most)

    def test_a_thousand_things_and_more(self):
        ring = Ring(Group(30, THOUSAND), Lists(30), [0, 10, 20])
        self.assertEqual(ring.things(), sorted(itertools.product(range(10), range(10, 20), range(20, 30))))
        self.assertEqual(ring.keepers().size(), 1)
        with self.assertRaises(TooMany):
            Ring(Group(30, THOUSAND), Lists(30), [0, 10, 20], 999)
        with self.assertRaises(TooMany):
            Ring(Group(31, ONE_MORE), Lists(31), [0, 7, 18])
        with self.assertRaises(TooMany):
            Ring(Group(31, ONE_MORE), Lists(31), [0, 7, 18], 1000)

    def test_of_groups_far_too_large_to_be_listed(self):
        for name, act, thing in (
            ("all", Sets(60), [0, 1]), ("all", Lists(60), list(range(60))), ("all", Turns(60), mixed_up(60, 3)), ("even", Nets(60), [(0, 59)]),
            ("all", Sides(Group(60, [])), still(60)), ("mathieu", Lists(24), [0, 1, 2]),
        ):
            with self.assertRaises(TooMany):
                Ring(BUILT[name], act, thing)

    def test_few_things_of_great_groups(self):
        for name, act, thing, count, size in (
            ("all", Places(60), 59, 60, math.factorial(59)), ("all", Sets(60), range(60), 1, math.factorial(60)),
            ("even", Places(60), 30, 60, math.factorial(59) // 2), ("halves", Lists(60), [0, 59], 900, math.factorial(29) ** 2),
            ("halves", Sets(60), [59, 0], 900, math.factorial(29) ** 2), ("halves", Sets(60), [7, 3], 435, 2 * math.factorial(28) * math.factorial(30)),
            ("pairs", Sets(60), [1, 0], 30, 2 ** 30 * math.factorial(29)), ("tens", Sets(60), range(10, 20), 6, math.factorial(10) ** 6 * 120),
            ("all", Sides(BUILT["even"]), mixed_up(60, 1), 2, math.factorial(60) // 2), ("all", Turns(60), still(60), 1, math.factorial(60)),
            ("flips", Turns(60), loop(60, 0, 1), 1, 2 ** 30), ("pairs", Turns(60), loop(60, 0, 1), 30, 2 ** 30 * math.factorial(29)),
            ("tens", Nets(60), list(itertools.combinations(range(10), 2)), 6, math.factorial(10) ** 6 * 120),
            ("mathieu", Places(24), 23, 24, 10200960), ("mathieu", Lists(24), [5, 9], 552, 443520), ("mathieu", Sets(24), [5, 9], 276, 887040),
            ("cube", Places(48), 0, 24, 43252003274489856000 // 24), ("regular", Places(60), 17, 60, 1), ("round", Turns(60), loop(60, *range(60)), 1, 60),
        ):
            thing = list(thing) if isinstance(thing, range) else thing
            ring = Ring(BUILT[name], act, thing)
            self.assertEqual(len(ring.things()), count, (name, thing))
            keepers = ring.keepers()
            self.assertEqual(keepers.size(), size, (name, thing))
            self.assertTrue(all(act.kept(thing, maker) and BUILT[name].has(maker) for maker in keepers.told()))
            self.assertTrue(all(act.moved(act.looked(thing), ring.bringer(there)) == there for there in ring.things()[::29]))

    def test_no_makers(self):
        for many in (1, 60):
            for act, thing in ((Places(many), 0), (Sets(many), [many - 1]), (Turns(many), mixed_up(many, 2)), (Lists(many), [0] * 60)):
                ring = Ring(Group(many, []), act, thing, 1)
                self.assertEqual((ring.things(), ring.way(thing)), ([act.looked(thing)], []))
                self.assertEqual((ring.keepers().size(), ring.keepers().many), (1, many))

    def test_two_hundred_makers(self):
        makers = [mixed_up(30, seed) for seed in range(199)] + [loop(30, 0, 1)]
        ring = Ring(Group(30, makers), Sets(30), [4, 9])
        self.assertEqual(len(ring.things()), 435)
        self.assertEqual(ring.keepers().size(), 2 * math.factorial(28))
        self.assertEqual(max(ring.far(thing) for thing in ring.things()), 2)
        for thing in ring.things()[::17]:
            there = (4, 9)
            for number in ring.way(thing):
                there = Sets(30).moved(there, makers[number])
            self.assertEqual(there, thing)


class RefusedTest(unittest.TestCase):
    def refused(self, group, act, thing, most=1000):
        with self.assertRaises(NoThing):
            Ring(group, act, thing, most)

    def test_a_thing_that_the_act_refuses(self):
        for act in (Places(4), Lists(4), Sets(4), Nets(4), Turns(4), Sides(Group(4, [])), Act(4)):
            for thing in ANYTHING:
                self.refused(ALL_OF_FOUR, act, thing)
        for thing in NO_TURNINGS:
            self.refused(ALL_OF_FOUR, Turns(4), thing)
            self.refused(ALL_OF_FOUR, Sides(ALL_OF_FOUR), thing)
        for act, thing in ((Places(4), 4), (Lists(4), [0, 4]), (Lists(4), [0] * 61), (Sets(4), [1, 1]), (Nets(4), [(0, 1), (1, 0)]), (Act(4), 0)):
            self.refused(ALL_OF_FOUR, act, thing)

    def test_an_act_of_another_many(self):
        for act, thing in (
            (Places(3), 0), (Places(5), 0), (Lists(60), []), (Sets(3), [0]), (Nets(5), []), (Turns(3), still(3)), (Turns(5), still(5)),
            (Sides(Group(5, [])), still(5)), (Sides(Group(3, [])), still(4)), (Act(5), 0),
        ):
            self.refused(ALL_OF_FOUR, act, thing)
            self.refused(ALL_OF_FOUR, act, None)

    def test_this_comes_ahead_of_too_many_things(self):
        self.refused(ALL_OF_FOUR, Lists(5), [0, 1, 2, 3], 1)
        self.refused(ALL_OF_FOUR, Lists(4), [0, 1, 2, 4], 1)
        self.refused(BUILT["all"], Sets(59), [0, 1])

    def test_what_is_asked_for_is_looked_at_first(self):
        ring = Ring(ALL_OF_FOUR, Sets(4), [0, 1])
        for asked in (ring.far, ring.way, ring.bringer):
            for thing in ANYTHING + (0, 4, [0, 4], [0, 0], [1, 0, 1], "01", [[0, 1]]):
                with self.assertRaises(NoThing):
                    asked(thing)
            for thing in ([], [0], [0, 1, 2], (), (3, 2, 1, 0)):
                with self.assertRaises(NotIn):
                    asked(thing)

    def test_of_every_act(self):
        for act, thing, out in (
            (Places(6), 1, None), (Lists(6), [0, 1], (1, 0)), (Sets(6), [0, 1], [0, 2]), (Nets(6), [(0, 1)], [[0, 2]]),
            (Turns(6), loop(6, 0, 1), loop(6, 0, 2)), (Sides(ROUND_OF_SIX), still(6), loop(6, 0, 1)),
        ):
            ring = Ring(ROUND_OF_SIX, act, thing)
            for asked in (ring.far, ring.way, ring.bringer):
                for wrong in ANYTHING:
                    with self.assertRaises(NoThing):
                        asked(wrong)
                if out is not None:
                    with self.assertRaises(NotIn):
                        asked(out)
        with self.assertRaises(NotIn):
            Ring(Group(4, [(1, 0, 2, 3)]), Places(4), 0).far(2)

    def test_what_is_refused_changes_nothing(self):
        ring = Ring(ALL_OF_FOUR, Sets(4), [0, 1])
        before = (ring.things(), [ring.way(thing) for thing in ring.things()], ring.keepers().ground())
        for wrong in ([0], None, [0, 4]):
            with self.assertRaises((NotIn, NoThing)):
                ring.far(wrong)
        self.assertEqual((ring.things(), [ring.way(thing) for thing in ring.things()], ring.keepers().ground()), before)


class HandedInAndToldTest(unittest.TestCase):
    def asked(self, ring):
        return (ring.things, lambda: ring.way([[3, 0]]), lambda: ring.keepers().told())

    def test_a_told_list_is_the_askers_own(self):
        ring = Ring(ALL_OF_FOUR, Nets(4), [(0, 1)])
        for ask in self.asked(ring):
            before = repr([again() for again in self.asked(ring)])
            told = ask()
            self.assertIsInstance(told, list)
            told[0] = "other"
            told.append("more")
            self.assertEqual(repr([again() for again in self.asked(ring)]), before)
        own_way = ring.way([(0, 1)])
        own_way.append(1)
        self.assertEqual(ring.way([(0, 1)]), [])
        self.assertEqual(ring.far([(0, 1)]), 0)

    def test_what_is_handed_in_stays_and_may_be_changed_behind(self):
        net = [[1, 0], [2, 1]]
        ring = Ring(ALL_OF_FOUR, Nets(4), net)
        before = (ring.things(), ring.keepers().ground())
        asked = [[3, 2], [2, 1]]
        ring.way(asked)
        self.assertEqual((net, asked), ([[1, 0], [2, 1]], [[3, 2], [2, 1]]))
        net[0].clear()
        net.append("other")
        self.assertEqual((ring.things(), ring.keepers().ground()), before)
        self.assertEqual(ring.way([(0, 1), (1, 2)]), [])

    def test_asking_changes_no_group(self):
        group = Group(6, [by_blocks((1, 2, 0), 2), loop(6, 4, 5)])
        before = (group.told(), group.ground(), group.paper())
        ring = Ring(group, Sets(6), [0, 2])
        keepers = ring.keepers()
        told = (keepers.told(), keepers.ground(), keepers.paper())
        for thing in ring.things():
            ring.bringer(thing)
        again = ring.keepers()
        again.recipe(again.nth(0))
        self.assertEqual((again.told(), again.ground(), again.paper()), told)
        self.assertEqual((keepers.told(), keepers.ground(), keepers.paper()), told)
        self.assertEqual((group.told(), group.ground(), group.paper()), before)

    def test_the_known_large_groups_stay(self):
        for name, many, makers, size in LARGE:
            self.assertEqual((BUILT[name].many, BUILT[name].told(), BUILT[name].size()), (many, makers, size))
