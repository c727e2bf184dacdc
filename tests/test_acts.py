import itertools
import unittest

from helpers import ANYTHING, Ill, loop, mixed_up
from turnbase.acts import Act, Lists, Nets, Places, Sets, Sides, Turns
from turnbase.errors import NoThing
from turnbase.groups import Group
from turnbase.turnings import back, behind, still

ROUND = (1, 2, 3, 4, 5, 0)
SWAP = (1, 0, 2, 3, 4, 5)
SIX = [mixed_up(6, seed) for seed in range(12)] + [still(6), ROUND, SWAP]
PART = Group(6, [loop(6, 0, 1, 2), loop(6, 3, 4)])


class Base(unittest.TestCase):
    def refused(self, act, things):
        for thing in things:
            with self.assertRaises(NoThing):
                act.looked(thing)
            with self.assertRaises(NoThing):
                act.kept(thing, still(act.many))

    def moves_as_a_whole(self, act, things):
        """The still one keeps each thing; one behind the other moves as first one, then the other; back moves back."""
        for thing in [act.looked(thing) for thing in things]:
            self.assertEqual(act.looked(thing), thing)
            self.assertEqual(act.moved(thing, still(act.many)), thing)
            for one, other in itertools.product(SIX, SIX):
                there = act.moved(thing, one)
                self.assertEqual(act.looked(there), there)
                self.assertEqual(act.moved(there, other), act.moved(thing, behind(one, other)))
                self.assertEqual(act.moved(there, back(one)), thing)
                self.assertIs(act.kept(thing, one), there == thing)


class ActTest(Base):
    def test_the_value_many(self):
        for made in (Act, Places, Lists, Sets, Nets, Turns):
            for many in (1, 7, 60):
                self.assertEqual(made(many).many, many)
        self.assertEqual(Sides(PART).many, 6)
        self.assertEqual(Sides(Group(60, [])).many, 60)

    def test_all_stand_under_act(self):
        for made in (Places, Lists, Sets, Nets, Turns, Sides):
            self.assertTrue(issubclass(made, Act))

    def test_an_act_itself_refuses_every_thing(self):
        self.refused(Act(6), ANYTHING + (0, 5, [], (), [0], still(6), ROUND, [(0, 1)]))

    def test_its_moved_tells_the_thing_itself(self):
        for thing in (0, (1, 2), ROUND, ((0, 1),)):
            self.assertEqual(Act(6).moved(thing, ROUND), thing)


class PlacesTest(Base):
    def test_moved(self):
        self.assertEqual(Places(6).moved(0, ROUND), 1)
        self.assertEqual(Places(6).moved(5, ROUND), 0)
        self.moves_as_a_whole(Places(6), range(6))

    def test_looked_and_kept(self):
        self.assertEqual([Places(6).looked(place) for place in range(6)], list(range(6)))
        self.assertIs(Places(6).kept(2, SWAP), True)
        self.assertIs(Places(6).kept(0, SWAP), False)

    def test_one_place_and_sixty(self):
        self.assertEqual(Places(1).looked(0), 0)
        self.refused(Places(1), (1, -1))
        self.assertEqual(Places(60).looked(59), 59)
        self.refused(Places(60), (60, -1))

    def test_what_is_no_place(self):
        self.refused(Places(6), ANYTHING + (6, -1, 7, [0], (0,), [], ()))


class ListsTest(Base):
    def test_moved(self):
        self.assertEqual(Lists(6).moved((4, 0, 4, 5), ROUND), (5, 1, 5, 0))
        self.assertEqual(Lists(6).moved((), ROUND), ())
        self.moves_as_a_whole(Lists(6), ([], [3], [5, 0], (2, 2), [4, 0, 4, 1, 5, 3, 2, 0]))

    def test_its_form_is_a_tuple_in_the_same_order(self):
        for thing in ([], (), [4, 0, 4], (4, 0, 4), [5], (0, 0)):
            self.assertEqual(Lists(6).looked(thing), tuple(thing))
            self.assertIsInstance(Lists(6).looked(thing), tuple)

    def test_kept(self):
        self.assertIs(Lists(6).kept([2, 3, 2], SWAP), True)
        self.assertIs(Lists(6).kept([0, 1], SWAP), False)
        self.assertIs(Lists(6).kept([], ROUND), True)

    def test_sixty_and_more(self):
        self.assertEqual(Lists(1).looked([0] * 60), (0,) * 60)
        self.assertEqual(Lists(60).looked(list(range(59, -1, -1))), tuple(range(59, -1, -1)))
        self.refused(Lists(1), ([0] * 61, (0,) * 61, [0] * 20000))
        self.refused(Lists(60), (list(range(60)) + [0],))

    def test_what_is_no_list_of_places(self):
        self.refused(Lists(6), ANYTHING + (0, 3, [6], (6,), [0, 6], [0, 1, -1], [[0]], ((0,),), [0, [1]], "01", b"\x00\x01", {1: 2}))


class SetsTest(Base):
    def test_moved(self):
        self.assertEqual(Sets(6).moved((0, 4, 5), ROUND), (0, 1, 5))
        self.assertEqual(Sets(6).moved((), ROUND), ())
        self.moves_as_a_whole(Sets(6), ([], [3], [5, 0], (2, 4, 1), [5, 4, 3, 2, 1, 0]))

    def test_its_form_is_the_rising_tuple(self):
        for thing in ([], (), [4, 0, 5], (5, 4, 0), [5], (3,)):
            self.assertEqual(Sets(6).looked(thing), tuple(sorted(thing)))
            self.assertIsInstance(Sets(6).looked(thing), tuple)

    def test_kept(self):
        self.assertIs(Sets(6).kept([1, 0], SWAP), True)
        self.assertIs(Sets(6).kept([1, 2], SWAP), False)
        self.assertIs(Sets(6).kept([3, 2], SWAP), True)

    def test_sixty_and_more(self):
        self.assertEqual(Sets(60).looked(list(range(59, -1, -1))), tuple(range(60)))
        self.assertEqual(Sets(1).looked([0]), (0,))
        self.refused(Sets(60), (list(range(60)) + [0], list(range(61)), [0] * 20000))

    def test_alike_places(self):
        self.refused(Sets(6), ([0, 0], (1, 2, 1), [5, 4, 3, 5]))

    def test_what_is_no_set_of_places(self):
        self.refused(Sets(6), ANYTHING + (0, 3, [6], (6,), [0, 6], [0, 1, -1], [[0]], ((0,),), [0, [1]], "01", {1: 2}))


class NetsTest(Base):
    def test_moved(self):
        self.assertEqual(Nets(6).moved(((0, 1), (2, 5), (4, 5)), ROUND), ((0, 3), (0, 5), (1, 2)))
        self.assertEqual(Nets(6).moved((), ROUND), ())
        things = ([], [(5, 0)], [(0, 1), (1, 2), (2, 3)], ([4, 1], (1, 0), [5, 1]), list(itertools.combinations(range(6), 2)))
        self.moves_as_a_whole(Nets(6), things)

    def test_its_form_is_rising_pairs_rising(self):
        pairs = [(5, 1), (1, 0), (2, 4), (3, 0)]
        formed = ((0, 1), (0, 3), (1, 5), (2, 4))
        for thing in (pairs, tuple(pairs), [list(pair) for pair in pairs], [(1, 5), [0, 1], [4, 2], (3, 0)], list(reversed(pairs))):
            self.assertEqual(Nets(6).looked(thing), formed)
            self.assertIsInstance(Nets(6).looked(thing), tuple)
            for pair in Nets(6).looked(thing):
                self.assertIsInstance(pair, tuple)
        self.assertEqual(Nets(6).looked([]), ())
        self.assertEqual(Nets(6).looked(()), ())

    def test_kept(self):
        self.assertIs(Nets(6).kept([(1, 0)], SWAP), True)
        self.assertIs(Nets(6).kept([(2, 1), (0, 2)], SWAP), True)
        self.assertIs(Nets(6).kept([(1, 2)], SWAP), False)
        self.assertIs(Nets(6).kept([(3, 2)], SWAP), True)

    def test_two_hundred_pairs_and_more(self):
        pairs = list(itertools.combinations(range(60), 2))
        self.assertEqual(Nets(60).looked(pairs[:200]), tuple(pairs[:200]))
        self.assertEqual(Nets(60).looked([(b, a) for a, b in reversed(pairs[-200:])]), tuple(pairs[-200:]))
        self.refused(Nets(60), (pairs[:201], tuple(pairs[:201]), pairs))

    def test_alike_pairs_in_either_order(self):
        self.refused(Nets(6), ([(0, 1), (0, 1)], [(0, 1), (1, 0)], [(0, 1), [0, 1]], ((2, 3), (0, 1), (3, 2)), [[4, 5], [5, 4]]))

    def test_what_is_no_pair(self):
        wrong = ANYTHING + (0, 3, (), [], (0,), [0], (0, 0), [3, 3], (0, 1, 2), (0, 6), (6, 0), (-1, 0), "01", ((0, 1), (2, 3)), (0, [1]))
        self.refused(Nets(6), [[pair] for pair in wrong])
        self.refused(Nets(6), [((0, 1), pair) for pair in wrong])
        self.refused(Nets(6), [(pair, (0, 1)) for pair in wrong])

    def test_what_is_no_net(self):
        self.refused(Nets(6), ANYTHING + (0, 3, (0, 1), [0, 1], {(0, 1): 1}, {(0, 1)}, "0-1"))
        self.refused(Nets(1), ([(0, 0)], [(0, 1)]))


class TurnsTest(Base):
    def test_moved_turned_about(self):
        self.assertEqual(Turns(6).moved(SWAP, ROUND), (0, 2, 1, 3, 4, 5))
        for one, by in itertools.product(SIX, SIX):
            made = Turns(6).moved(one, by)
            self.assertEqual([made[by[place]] for place in range(6)], [by[one[place]] for place in range(6)])
        self.moves_as_a_whole(Turns(6), SIX[:6] + [still(6), ROUND])

    def test_looked_and_kept(self):
        self.assertEqual([Turns(6).looked(one) for one in SIX], SIX)
        self.assertIs(Turns(6).kept(ROUND, behind(ROUND, ROUND)), True)
        self.assertIs(Turns(6).kept(ROUND, SWAP), False)
        self.assertIs(Turns(6).kept(still(6), SWAP), True)

    def test_one_place_and_sixty(self):
        self.assertEqual(Turns(1).looked((0,)), (0,))
        self.assertEqual(Turns(60).looked(mixed_up(60, 1)), mixed_up(60, 1))

    def test_what_is_no_turning_of_so_many_places(self):
        wrong = (0, [], (), still(5), still(7), (0,), list(ROUND), (0, 1, 2, 3, 4, 4), (0, 1, 2, 3, 4, 6), (1, 2, 3, 4, 5, False))
        self.refused(Turns(6), ANYTHING + wrong)
        self.refused(Turns(60), (still(59), tuple(range(61))))


class SidesTest(Base):
    def test_its_form_is_the_least_one_of_its_side(self):
        for one in SIX:
            self.assertEqual(Sides(PART).looked(one), min(behind(h, one) for h in PART.listed()))

    def test_moved(self):
        for one, by in itertools.product(SIX, SIX):
            least = Sides(PART).looked(one)
            self.assertEqual(Sides(PART).moved(least, by), min(behind(h, behind(one, by)) for h in PART.listed()))
        self.moves_as_a_whole(Sides(PART), SIX[:6] + [still(6)])

    def test_kept(self):
        for one in PART.listed():
            self.assertIs(Sides(PART).kept(still(6), one), True)
            # Another turning of the same side tells the same thing.
            self.assertIs(Sides(PART).kept(one, still(6)), True)
            self.assertIs(Sides(PART).kept(one, loop(6, 3, 4)), True)
        self.assertIs(Sides(PART).kept(still(6), ROUND), False)
        self.assertIs(Sides(PART).kept(ROUND, loop(6, 0, 1)), False)

    def test_of_a_group_of_the_still_one_alone(self):
        alone = Sides(Group(6, []))
        for one in SIX:
            self.assertEqual(alone.looked(one), one)
            self.assertEqual(alone.moved(one, ROUND), behind(one, ROUND))

    def test_sixty_places(self):
        whole = Sides(Group(60, [loop(60, *range(60)), loop(60, 0, 1)]))
        self.assertEqual(whole.looked(mixed_up(60, 1)), still(60))
        self.assertEqual(whole.moved(still(60), mixed_up(60, 2)), still(60))
        halves = Sides(Group(60, [loop(60, *range(30)), loop(60, 0, 1), loop(60, *range(30, 60)), loop(60, 30, 31)]))
        one = mixed_up(60, 3)
        self.assertEqual(halves.looked(one), tuple(sorted(one[:30]) + sorted(one[30:])))

    def test_what_is_no_turning_of_so_many_places(self):
        wrong = (0, [], (), still(5), still(7), (0,), list(ROUND), (0, 1, 2, 3, 4, 4), (0, 1, 2, 3, 4, 6), (1, 2, 3, 4, 5, False))
        self.refused(Sides(PART), ANYTHING + wrong)


class HandedInAndToldTest(unittest.TestCase):
    def test_nothing_that_is_handed_in_is_changed(self):
        row, net = [4, 0, 3], [[5, 1], [1, 0]]
        formed = (Lists(6).looked(row), Sets(6).looked(row), Nets(6).looked(net))
        Lists(6).kept(row, ROUND)
        Sets(6).kept(row, ROUND)
        Nets(6).kept(net, ROUND)
        self.assertEqual((row, net), ([4, 0, 3], [[5, 1], [1, 0]]))
        row.append(2)
        net[0].clear()
        net.pop()
        self.assertEqual(formed, ((4, 0, 3), (0, 3, 4), ((0, 1), (1, 5))))

    def test_a_refusal_is_not_shown_the_thing(self):
        # Its own words must not hang on how the thing shows itself.
        for act in (Places(6), Lists(6), Sets(6), Nets(6), Turns(6), Sides(PART)):
            for thing in (Ill(), [Ill()], [[Ill(), Ill()]], (Ill(),) * 6):
                with self.assertRaises(NoThing):
                    act.looked(thing)
