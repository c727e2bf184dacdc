"""What the program promises as a whole: known groups asked through all modules and the desk, with answers that agree."""

import itertools
import os
import pathlib
import subprocess
import sys
import unittest

from helpers import all_made, by_blocks, loop, mixed_up
from known import BUILT, FLIPS, LARGE, SMALL
from turnbase.acts import Lists, Nets, Places, Sets, Sides, Turns
from turnbase.desk import Desk
from turnbase.errors import NotIn, NotPart, TooMany
from turnbase.groups import Group, lean
from turnbase.parts import common, fixing, is_part, joined, same, shadow, sides
from turnbase.partings import finest, rings_of
from turnbase.recipes import is_recipe, lengths, read_recipe, shown_recipe, spelled, trimmed, walked, worked
from turnbase.rings import Ring
from turnbase.stairs import about, closed, is_calm, is_kept, is_tame, mixed, slopes, stairs
from turnbase.texts import read, shown
from turnbase.turnings import back, behind, power, still, turned

ROOT = pathlib.Path(__file__).resolve().parent.parent
FEW = [Group(many, makers) for many, makers in SMALL[::23] + SMALL[-15:]]
GREAT = [BUILT[name] for name in ("halves", "pairs", "tens", "cube", "mathieu", "regular", "round")]
GREATEST = [BUILT["all"]]


def some_numbers(group):
    last = group.size() - 1
    return sorted({0, last, last // 2, last // 3, last * 5 // 7, min(1, last)})


def laid(desk, name, group):
    """Lays the group on the desk: by lines of twenty makers each, joined, since a line tells no more."""
    texts = [shown(maker) for maker in group.told()]
    desk.say(f"make {name} {group.many} " + " ".join(texts[:20]) if texts else f"make {name} {group.many}")
    for start in range(20, len(texts), 20):
        desk.say(f"make rest {group.many} " + " ".join(texts[start:start + 20]))
        desk.say(f"join {name} {name} rest")
    return desk


def yes_or_no(is_so):
    return "yes" if is_so else "no"


def things_of(group):
    """For several acts a thing of which the group makes a ring of at most a thousand things."""
    many, last = group.many, group.many - 1
    told = [(Places(many), last), (Lists(many), [0, last, 0]), (Sets(many), [last]), (Sets(many), [0, last] if last else []), (Nets(many), [])]
    told += [(Turns(many), still(many)), (Turns(many), group.nth(group.size() // 2)), (Sides(group), mixed_up(many, 3))]
    told += [(Sides(fixing(group, [0])), still(many)), (Nets(many), [(0, last)] if last else [])]
    for act, thing in told:
        try:
            yield act, thing, Ring(group, act, thing)
        except TooMany:
            continue


class AgreeTest(unittest.TestCase):
    def test_turnings_have_numbers_recipes_and_texts(self):
        for group in FEW + GREAT + GREATEST:
            makers, before = group.told(), None
            for k in some_numbers(group):
                one = group.nth(k)
                self.assertEqual(group.place_of(one), k)
                self.assertTrue(before is None or before < one)
                before = one
                lines = group.recipe(one)
                self.assertTrue(is_recipe(lines, len(makers)))
                self.assertEqual(worked(lines, makers, group.many)[-1], one)
                self.assertEqual((trimmed(lines), read_recipe(shown_recipe(lines), len(makers))), (lines, lines))
                self.assertEqual(read(shown(one), group.many), one)
                if lengths(lines)[-1] <= 1000:
                    self.assertEqual(walked(spelled(lines), makers, group.many), one)

    def test_what_can_be_made_lies_in_it_and_nothing_else(self):
        for group in FEW + GREAT + GREATEST:
            here = still(group.many)
            for seed in range(12):
                for maker in group.told()[seed % 3:] + group.told()[:seed % 3]:
                    here = behind(back(here), power(maker, seed)) if seed % 4 else behind(here, maker)
                self.assertTrue(group.has(here))
                self.assertEqual(group.least(here), still(group.many))
            for seed in range(4):
                out = mixed_up(group.many, seed)
                self.assertIs(group.has(out), group.least(out) == still(group.many))
                if not group.has(out):
                    with self.assertRaises(NotIn):
                        group.recipe(out)
                    if seed == 0 and group not in GREATEST:
                        self.assertGreater(joined(group, Group(group.many, [out])).size(), group.size())

    def test_things_of_a_ring_times_its_keepers(self):
        for group in FEW + GREAT + GREATEST:
            count = 0
            for act, thing, ring in things_of(group):
                count += 1
                keepers = ring.keepers()
                self.assertEqual(keepers.size() * len(ring.things()), group.size())
                self.assertTrue(is_part(keepers, group))
                self.assertTrue(all(act.kept(thing, maker) for maker in keepers.told()))
                there = ring.things()[-1]
                if group not in GREATEST:
                    # What keeps another thing of the ring is what keeps this one, turned about by what brings it there.
                    self.assertTrue(same(about(keepers, ring.bringer(there)), Ring(group, act, there).keepers()))
            self.assertGreater(count, 4)

    def test_sides_of_keepers_are_as_many_as_things(self):
        for group in FEW + GREAT:
            for _, _, ring in things_of(group):
                keepers = ring.keepers()
                self.assertEqual(len(sides(group, keepers)), len(ring.things()))
                if len(ring.things()) <= 60:
                    moving = Group(len(ring.things()), shadow(group, keepers))
                    # One ring of all sides, and all turnings that keep every side are in the part.
                    self.assertEqual(rings_of(moving.many, moving.told()), [list(range(moving.many))])
                    self.assertEqual(group.size() % moving.size(), 0)
                    self.assertTrue(is_kept(group, keepers) == (moving.size() == moving.many))

    def test_places(self):
        for group in FEW + GREAT + GREATEST:
            for ring in rings_of(group.many, group.told()):
                self.assertEqual(Ring(group, Places(group.many), ring[0]).things(), ring)
                self.assertEqual(Ring(group, Places(group.many), ring[-1]).far(ring[-1]), 0)
            self.assertEqual(group.ring_at(0), Ring(group, Places(group.many), 0).things())
            for place in range(1, group.many, 1 + group.many // 2):
                part = fixing(group, list(range(place)))
                self.assertEqual(part.ring_at(place), group.ring_at(place))
                self.assertEqual(Ring(part, Places(group.many), place).things(), group.ring_at(place))
                self.assertEqual(group.lift(place, group.ring_at(place)[-1]), part.lift(place, group.ring_at(place)[-1]))

    def test_partings(self):
        # A finest parting that the makers keep is kept by the whole group: as a net of all pairs within its parts.
        for group, pairs in ((BUILT["pairs"], [(0, 1)]), (BUILT["round"], [(0, 30)]), (BUILT["regular"], [(0, 1)]), (FEW[-1], [(0, 1)])):
            parts = finest(group.many, group.told(), pairs)
            net = [pair for part in parts for pair in itertools.combinations(part, 2)]
            if len(net) <= 200:
                self.assertEqual(Ring(group, Nets(group.many), net).things(), [tuple(sorted(net))])

    def test_two_groups_with_much_in_common(self):
        for group in FEW + GREAT:
            for _, _, ring in itertools.islice(things_of(group), 3):
                keepers = ring.keepers()
                other = about(keepers, group.told()[0] if group.told() else still(group.many))
                both = common(keepers, other) if keepers.size() <= 1000 else common(group, keepers)
                self.assertTrue(is_part(both, keepers) and is_part(both, group))
                self.assertTrue(same(joined(keepers, both), keepers))
                self.assertTrue(same(common(group, keepers), keepers))
                self.assertTrue(same(common(keepers, group, 1), keepers))

    def test_closed_mixed_and_stairs(self):
        for group in FEW + GREAT:
            part = Group(group.many, [group.nth(group.size() // 2)])
            there, mix = closed(group, part), mixed(group, part)
            self.assertTrue(is_part(part, there) and is_kept(group, there) and is_kept(group, mix) and is_part(mix, there))
            self.assertIs(same(part, there), is_kept(group, part))
            self.assertTrue(same(closed(group, there), there))
            self.assertTrue(same(joined(mix, part), there))
            down, sloping = stairs(group), slopes(group)
            self.assertEqual((is_tame(group), is_calm(group)), (down[-1].size() == 1, sloping[-1].size() == 1))
            self.assertTrue(is_tame(group) or not is_calm(group))
            for lower, upper in zip(down[1:], down):
                self.assertTrue(is_part(lower, upper) and is_kept(upper, lower) and is_kept(group, lower))


class SameGroundsTest(unittest.TestCase):
    def ways_to_make(self, group):
        lifts = [lift for _, found in group.ground() for lift in found]
        lines, steps = group.paper()
        made = worked(lines, group.told(), group.many)
        last = Ring(group, Places(group.many), group.many - 1)
        yield Group(group.many, lean(group.many, group.told()[::-1]))
        yield Group(group.many, lean(group.many, lifts))
        yield Group(group.many, lean(group.many, [made[line] for _, found in steps for _, line in found]))
        yield Group(group.many, [back(maker) for maker in group.told()])
        yield joined(last.keepers(), Group(group.many, lean(group.many, [last.bringer(thing) for thing in last.things()])))
        yield Ring(group, Sides(group), still(group.many)).keepers()
        yield about(about(group, mixed_up(group.many, 1)), back(mixed_up(group.many, 1)))
        yield fixing(group, [])
        yield closed(group, group)

    def test_in_whatever_way_each_was_made(self):
        for group in FEW + GREAT + [BUILT["flips"]]:
            ground = group.ground()
            for other in self.ways_to_make(group):
                self.assertEqual(other.ground(), ground)
                self.assertTrue(same(other, group))

    def test_of_all_turnings_of_sixty_places(self):
        for other in (joined(BUILT["even"], Group(60, [loop(60, 0, 1)])), joined(BUILT["pairs"], BUILT["halves"]), BUILT["all by chance"]):
            self.assertEqual(other.ground(), BUILT["all"].ground())
        self.assertEqual(mixed(BUILT["all"], BUILT["all"]).ground(), BUILT["even"].ground())
        self.assertEqual(common(BUILT["all"], BUILT["even"]).ground(), BUILT["even"].ground())

    def test_just_where_the_turnings_are_the_same(self):
        groups = [Group(4, makers) for many, makers in SMALL if many == 4][::9]
        for group in list(groups):
            groups += [closed(groups[1], group)] if is_part(group, groups[1]) else [common(group, groups[1]), joined(group, groups[2])]
        for one, other in itertools.combinations(groups, 2):
            self.assertIs(one.ground() == other.ground(), one.listed() == other.listed())


class DeskTest(unittest.TestCase):
    """The desk answers as the modules do."""

    def test_of_each_group(self):
        for group in FEW + GREAT + [BUILT["flips"], BUILT["all"]]:
            desk = laid(Desk(), "g", group)
            self.assertEqual(desk.say("size g"), str(group.size()))
            self.assertEqual(desk.say("base g"), ",".join(str(place) for place in group.base()))
            self.assertEqual(desk.say("ring g 0"), ",".join(str(place) for place in group.ring_at(0)))
            if len(group.told()) <= 20:
                self.assertEqual(desk.say("told g"), " ".join(shown(maker) for maker in group.told()))
            for k in some_numbers(group):
                text = desk.say(f"nth g {k}")
                self.assertEqual(read(text, group.many), group.nth(k))
                self.assertEqual((desk.say(f"place g {text}"), desk.say(f"has g {text}"), desk.say(f"least g {text}")), (str(k), "yes", "()"))
                makers = [read(maker, group.many) for maker in desk.say("told g").split()]
                self.assertEqual(worked(read_recipe(desk.say(f"word g {text}"), len(makers)), makers, group.many)[-1], group.nth(k))
            out = mixed_up(group.many, 9)
            self.assertEqual(desk.say(f"least g {shown(out)}"), shown(group.least(out)))
            self.assertEqual(desk.say(f"has g {shown(out)}"), yes_or_no(group.has(out)))

    def test_of_groups_laid_by_groups(self):
        for group in FEW + GREAT[2:]:
            last = group.many - 1
            desk = laid(Desk(), "g", group)
            turning = shown(group.nth(group.size() // 2))
            for line, made in (
                (f"fix x g {last}", lambda: fixing(group, [last])), (f"hold x g {last}", lambda: Ring(group, Sets(group.many), [last]).keepers()),
                (f"goes x g {turning}", lambda: Ring(group, Turns(group.many), read(turning, group.many)).keepers()),
                (f"about x g {shown(mixed_up(group.many, 2))}", lambda: about(group, mixed_up(group.many, 2))), ("mixed x g g", lambda: mixed(group, group)),
            ):
                try:
                    expected = made()
                except TooMany:
                    with self.assertRaises(TooMany):
                        desk.say(line)
                    continue
                self.assertEqual(desk.say(line), str(expected.size()))
                makers = [read(text, group.many) for text in desk.say("told x").split()]
                self.assertEqual(Group(group.many, makers).ground(), expected.ground())
                self.assertEqual(desk.say("part x g"), yes_or_no(is_part(expected, group)))
                if is_part(expected, group):
                    self.assertEqual((desk.say("join y x g"), desk.say("same y g")), (str(group.size()), "yes"))
                try:
                    count = str(len(sides(group, expected)))
                    self.assertEqual((desk.say("sides g x"), desk.say("common y g x")), (count, str(expected.size())))
                except (NotPart, TooMany) as refusal:
                    with self.assertRaises(refusal.__class__):
                        desk.say("sides g x")
            self.assertEqual((desk.say("tame g"), desk.say("calm g")), (yes_or_no(is_tame(group)), yes_or_no(is_calm(group))))

    def test_a_group_of_thirty_makers(self):
        desk = laid(Desk(), "flips", Group(60, FLIPS))
        self.assertEqual((desk.say("size flips"), desk.say("names"), desk.say("calm flips")), (str(2 ** 30), "flips rest", "yes"))


class NothingElseTest(unittest.TestCase):
    SCRIPT = (
        "from turnbase.desk import Desk\n"
        "desk = Desk()\n"
        "for line in ('make a 8 (0,1,2,3,4,5,6,7) (0,1)', 'hold b a 0,5,2', 'told b', 'word b (0,2)', 'net c a 0-1,1-2', 'told c', 'goes d a (0,1,2)',\n"
        "             'told d', 'mixed e a a', 'told e', 'common f b c', 'told f', 'word e (0,1,2)', 'way a 5 3', 'shadow g a e', 'told g', 'names'):\n"
        "    print(desk.say(line))\n"
    )

    def told_with(self, seed):
        around = dict(os.environ, PYTHONHASHSEED=seed, PYTHONPATH=str(ROOT), PYTHONDONTWRITEBYTECODE="1")
        return subprocess.run([sys.executable, "-c", self.SCRIPT], env=around, capture_output=True, text=True, check=True).stdout

    def test_nothing_hangs_on_chance(self):
        # Python mixes its own look-up tables by this seed: answers must not hang on it.
        self.assertEqual(len({self.told_with(seed) for seed in ("0", "1", "77", "4000")}), 1)

    def test_all_groups_of_four_and_of_great_size_stay_as_they_were(self):
        for name, many, makers, size in LARGE:
            self.assertEqual((BUILT[name].many, BUILT[name].told(), BUILT[name].size()), (many, makers, size))
            self.assertEqual(BUILT[name].chain.book.made, worked(BUILT[name].paper()[0], makers, many))
        for group in FEW:
            self.assertEqual(group.listed(), all_made(group.many, group.told()))

    def test_turned_about_in_every_way(self):
        # By behind and back, by the function, by the act and by the desk.
        for seed in range(6):
            one, by = mixed_up(20, seed), mixed_up(20, seed + 50)
            there = behind(behind(back(by), one), by)
            self.assertEqual((turned(one, by), Turns(20).moved(one, by)), (there, there))
            self.assertTrue(about(Group(20, [one]), by).has(there))
            desk = Desk()
            desk.say(f"make a 20 {shown(one)}")
            desk.say(f"about b a {shown(by)}")
            self.assertEqual(desk.say(f"has b {shown(there)}"), "yes")

    def test_one_place(self):
        group, act = Group(1, [(0,)]), Lists(1)
        ring = Ring(group, act, [0, 0, 0])
        self.assertEqual((ring.things(), ring.way((0, 0, 0)), ring.keepers().size()), ([(0, 0, 0)], [], 1))
        self.assertEqual((sides(group, group), shadow(group, Group(1, []))), ([(0,)], [(0,)]))
        self.assertTrue(is_tame(group) and is_calm(group) and is_kept(group, group) and same(group, Group(1, [])))
        self.assertEqual((rings_of(1, [(0,)]), fixing(group, [0]).size(), by_blocks((0,), 1)), ([[0]], 1, (0,)))
