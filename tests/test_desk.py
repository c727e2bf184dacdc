import itertools
import math
import unittest

from helpers import ANYTHING, all_made, loop, mixed_up
from known import CUBE, FOUR
from turnbase.acts import Nets, Places, Sets, Turns
from turnbase.desk import Desk
from turnbase.errors import NoGroup, NoLine, NoName, NoNumber, NoText, NoThing, NotIn, NotPart, TooMany
from turnbase.groups import Group
from turnbase.parts import common, fixing, joined, shadow, sides
from turnbase.recipes import read_recipe, worked
from turnbase.rings import Ring
from turnbase.stairs import about, closed, mixed
from turnbase.texts import read, shown
from turnbase.turnings import still

FIXED = {
    "make": "new many", "fix": "new name places", "hold": "new name places", "net": "new name pairs", "goes": "new name turning",
    "about": "new name turning", "join": "new name name", "common": "new name name", "closed": "new name name", "mixed": "new name name",
    "shadow": "new name name", "drop": "name", "names": "", "told": "name", "size": "name", "base": "name", "ring": "name place",
    "has": "name turning", "nth": "name number", "place": "name turning", "word": "name turning", "way": "name place place",
    "least": "name turning", "same": "name name", "part": "name name", "tame": "name", "calm": "name", "sides": "name name",
}
FINE = {"new": "x", "many": "4", "name": "s", "places": "0,1", "pairs": "0-1", "turning": "(0,1)", "place": "0", "number": "0"}
NO_NAMES = ("", "A", "aB", "a1", "1", "abcdefghi", "a-b", "a_b", "a,b", "a\n", "\n", "\ta", "(", "()", "`", "{", "aaaaaaaaaaaaaaaaaaaaaaaa")
NO_WORDS = {
    "many": ("", "0", "61", "04", "-4", "+4", "4.0", "x", "four", "4,4", "1" * 91, "9" * 90, "4\n", "1_0", "()"),
    "places": ("", "4", "0,4", "0,0", "01", "0,", ",0", "0;1", "-1", "a", "0-1", "()", "0,1\n", "0,1,2,3,0"),
    "pairs": ("", "0", "0,1", "0-0", "0-4", "0-1,1-0", "0-1,0-1", "0-1-2", "0-", "-1", "0-1,", "00-1", "(0,1)", "0-1\n"),
    "turning": ("", "(0)", "(0,4)", "(0,0)", "(0,1", "0,1)", "(0,1)(1,2)", "()()", "(00,1)", "(\t0,1)", "(0,1)\n", "0", "(,)", "(0,1)()"),
    "place": ("", "4", "00", "01", "0,1", "-1", "+1", "x", "0\n", "(0)", "100"),
    "number": ("", "01", "-1", "+1", "x", "1.0", "1" * 91, "1,2", "1\n", "()", "1_0"),
}


def desk_with(*lines):
    desk = Desk()
    for line in lines:
        desk.say(line)
    return desk


def all_that_stands(desk):
    """Whatever a desk tells of each of its groups."""
    return [(name, desk.say(f"told {name}"), desk.say(f"size {name}"), desk.say(f"base {name}")) for name in desk.say("names").split()]


def line_of(first, **other):
    """A fine line with this first word, but for the words told of their kinds."""
    return " ".join([first] + [other.get(kind, FINE[kind]) for kind in FIXED[first].split()])


def make_line(name, group):
    return " ".join(["make", name, str(group.many)] + [shown(maker) for maker in group.told()])


class Base(unittest.TestCase):
    def setUp(self):
        self.desk = desk_with("make s 4 (0,1,2,3) (0,1)", "make e 4 (0,1,2) (1,2,3)", "make v 4 (0,1)(2,3) (0,2)(1,3)", "make o 4", "make f 5 (0,1)")

    def answers(self, *pairs):
        for line, answer in pairs:
            self.assertEqual(self.desk.say(line), answer, line)

    def refused(self, error, *lines):
        for line in lines:
            before = all_that_stands(self.desk)
            # Things of any kind come here, some of which can't be shown.
            shown_line = line if isinstance(line, str) else "no text"
            with self.assertRaises(error, msg=shown_line) as caught:
                self.desk.say(line)
            self.assertEqual(caught.exception.__class__, error, shown_line)
            self.assertEqual(all_that_stands(self.desk), before, shown_line)


class NamesTest(Base):
    def test_a_new_desk_has_none(self):
        self.assertEqual(Desk().say("names"), "")

    def test_sorted(self):
        self.assertEqual(self.desk.say("names"), "e f o s v")
        self.answers(("make zz 1", "1"), ("make ab 1", "1"), ("make b 1", "1"), ("make aa 1", "1"), ("names", "aa ab b e f o s v zz"))

    def test_one_and_eight_letters(self):
        for name in ("a", "z", "abcdefgh", "zzzzzzzz", "names", "make"):
            self.answers((f"make {name} 2 (0,1)", "2"), (f"size {name}", "2"), (f"join {name} {name} {name}", "2"), (f"drop {name}", "ok"))
            self.refused(NoName, f"size {name}")

    def test_drop(self):
        self.answers(("drop s", "ok"), ("names", "e f o v"))
        self.refused(NoName, "drop s", "size s", "drop nothing", "join x s e", "fix x s 0")
        self.answers(("make s 3", "1"), ("size s", "1"), ("names", "e f o s v"))
        for name in "efosv":
            self.desk.say(f"drop {name}")
        self.assertEqual(self.desk.say("names"), "")

    def test_desks_keep_apart(self):
        other = Desk()
        other.say("make s 2 (0,1)")
        self.answers(("size s", "24"))
        self.assertEqual(other.say("names"), "s")
        self.desk.say("drop s")
        self.assertEqual(other.say("size s"), "2")

    def test_what_is_laid_anew_takes_the_place_of_what_stood(self):
        self.answers(("make s 2 (0,1)", "2"), ("size s", "2"), ("names", "e f o s v"))
        self.answers(("fix e e 0", "3"), ("fix e e 1", "1"), ("size e", "1"), ("join v v o", "4"), ("closed v v v", "4"))


class MakeTest(Base):
    def test_sizes(self):
        self.answers(
            ("make a 1", "1"), ("make a 1 ()", "1"), ("make a 60", "1"), ("make a 3 (0,1,2)", "3"), ("make a 3 (2,1) (0,1)", "6"),
            ("make a 60 (0,59)", "2"), ("make a 6 (0,1)(2,3)(4,5)", "2"), ("make a 12 (0,1,2)(3,4)(11,10,9,8,7)", "30"),
        )
        places = ",".join(str(place) for place in range(60))
        self.answers((f"make a 60 ({places}) (0,1)", str(math.factorial(60))), ("size a", str(math.factorial(60))))

    def test_makers_are_told_again(self):
        self.answers(("told s", "(0,1,2,3) (0,1)"), ("told o", ""), ("told v", "(0,1)(2,3) (0,2)(1,3)"), ("make a 4 () (3,2) () (3,2)", "2"))
        self.answers(("told a", "() (2,3) () (2,3)"), ("word a ()", "still"))

    def test_twenty_turnings_and_more(self):
        twenty = " ".join(f"({place},{place + 1})" for place in range(20))
        self.answers((f"make a 21 {twenty}", str(math.factorial(21))), ("told a", twenty))
        self.refused(NoLine, f"make a 21 {twenty} (0,1)", f"make a 21 {twenty} ", f"make A 0 {twenty} {twenty}", "make", "make a", "make ")

    def test_many(self):
        for many in NO_WORDS["many"]:
            self.refused(NoText, f"make a {many}", f"make a {many} (0,1)", f"make s {many} (0,9)")
        self.refused(NoText, "make a 2 (0,2)", "make a 1 (0,1)", "make a 59 (0,59)", "make a 4 (0,1) (0,4)", "make a 4 (0,1) ", "make a 4  (0,1)")
        self.refused(NoName, "make  4", "make A 61", "make a1 61 (0)")


class LayTest(Base):
    """Lines that lay groups, against the functions that make them."""

    def laid(self, line, group):
        self.assertEqual(self.desk.say(line), str(group.size()), line)
        for one in itertools.permutations(range(group.many)):
            self.assertEqual(self.desk.say(f"has x {shown(one)}"), "yes" if group.has(one) else "no", line)
        # What is told of its makers fits together, whichever they are.
        makers = [read(text, group.many) for text in self.desk.say("told x").split()]
        self.assertEqual(all_made(group.many, makers), group.listed())
        last = group.nth(group.size() - 1)
        lines = read_recipe(self.desk.say(f"word x {shown(last)}"), len(makers))
        self.assertEqual(worked(lines, makers, group.many)[-1], last)

    def groups(self):
        return [(name, Group(4, [read(text, 4) for text in self.desk.say(f"told {name}").split()])) for name in "sevo"]

    def test_fix(self):
        for name, group in self.groups():
            for row in ("0", "3", "2,1", "3,0,1", "0,1,2,3"):
                self.laid(f"fix x {name} {row}", fixing(group, [int(place) for place in row.split(",")]))

    def test_hold(self):
        for name, group in self.groups():
            for row in ("0", "2,1", "3,0", "3,0,1", "3,2,1,0"):
                self.laid(f"hold x {name} {row}", Ring(group, Sets(4), [int(place) for place in row.split(",")]).keepers())

    def test_net(self):
        for name, group in self.groups():
            for row, pairs in (("0-1", [(0, 1)]), ("3-0,1-2", [(3, 0), (1, 2)]), ("0-1,1-2,2-3,3-0", [(0, 1), (1, 2), (2, 3), (3, 0)])):
                self.laid(f"net x {name} {row}", Ring(group, Nets(4), pairs).keepers())

    def test_goes_and_about(self):
        for name, group in self.groups():
            for text in ("()", "(0,1)", "(3,1,2)", "(0,1)(2,3)", "(0,1,2,3)"):
                self.laid(f"goes x {name} {text}", Ring(group, Turns(4), read(text, 4)).keepers())
                self.laid(f"about x {name} {text}", about(group, read(text, 4)))

    def test_join_and_common(self):
        for (name, group), (other, part) in itertools.product(self.groups(), repeat=2):
            self.laid(f"join x {name} {other}", joined(group, part))
            self.laid(f"common x {name} {other}", common(group, part))

    def test_closed_and_mixed_of_the_group_and_the_part(self):
        self.desk.say("make t 4 (0,1)")
        part = Group(4, [(1, 0, 2, 3)])
        for name, group in self.groups():
            if group.has((1, 0, 2, 3)):
                self.laid(f"closed x {name} t", closed(group, part))
                self.laid(f"mixed x {name} t", mixed(group, part))
            self.laid(f"mixed x {name} {name}", mixed(group, group))
            self.laid(f"closed x {name} o", Group(4, []))
        self.answers(("closed x s t", "24"), ("mixed x s t", "12"), ("mixed x s s", "12"), ("mixed x e e", "4"), ("closed x s v", "4"))
        self.refused(NotPart, "closed x t s", "mixed x t s", "closed x e s", "mixed x v e")

    def test_shadow(self):
        for name, part in itertools.product("sevo", repeat=2):
            group, other = dict(self.groups())[name], dict(self.groups())[part]
            if all(group.has(maker) for maker in other.told()):
                turnings = shadow(group, other)
                count = len(sides(group, other))
                self.assertEqual(self.desk.say(f"shadow x {name} {part}"), str(Group(count, turnings).size()))
                self.assertEqual(self.desk.say(f"sides {name} {part}"), str(count))
                # It has as many places as there are sides.
                self.assertEqual(self.desk.say(f"has x {shown(still(count))}"), "yes")
                self.refused(NoText, f"ring x {count}")
        self.answers(("shadow x s v", "6"), ("ring x 5", "0,1,2,3,4,5"), ("shadow x s e", "2"), ("shadow x o o", "1"), ("ring x 0", "0"))
        self.answers(("shadow x s s", "1"), ("told x", "() ()"), ("base x", ""), ("shadow s s e", "2"), ("has s (0,1)", "yes"))

    def test_rings_that_are_too_large(self):
        self.desk.say("make a 60 (" + ",".join(str(place) for place in range(60)) + ") (0,1)")
        self.refused(TooMany, "hold x a 0,1", "net a a 0-1", "goes x a (0,1)", "hold a a 59,3")
        self.answers(("make n 60", "1"))
        self.refused(TooMany, "common x a n", "shadow x a n", "sides a n", "shadow a a n")
        self.answers(("hold x a 59", str(math.factorial(59))), ("fix x a 59,3,1", str(math.factorial(57))), ("common x n a", "1"))
        pairs = [f"{one}-{other}" for one, other in itertools.combinations(range(60), 2)]
        self.refused(NoThing, "net x n " + ",".join(pairs[:201]), "net x a " + ",".join(pairs))
        self.answers(("net x n " + ",".join(pairs[:200]), "1"))


class TellTest(Base):
    def test_known_answers(self):
        self.answers(
            ("size s", "24"), ("size o", "1"), ("base s", "0,1,2"), ("base v", "0"), ("base o", ""), ("ring s 3", "0,1,2,3"), ("ring f 0", "0,1"),
            ("ring f 4", "4"), ("has e (0,1)", "no"), ("has e ()", "yes"), ("nth s 0", "()"), ("nth s 23", "(0,3)(1,2)"), ("nth v 1", "(0,1)(2,3)"),
            ("place s (0,3)(1,2)", "23"), ("place o ()", "0"), ("word o ()", "still"), ("way s 0 0", ""), ("way s 0 3", "0,0,0"), ("way s 0 1", "0"),
            ("way s 1 0", "1"), ("way s 2 0", "0,0"), ("way f 0 1", "0"), ("way f 1 0", "0"), ("way o 3 3", ""), ("least e (0,1)", "(2,3)"),
            ("least s (0,1)", "()"), ("least o (0,1)", "(0,1)"), ("same s s", "yes"), ("same s e", "no"), ("same e s", "no"), ("same s f", "no"),
            ("part e s", "yes"), ("part s e", "no"), ("part s s", "yes"), ("part o v", "yes"), ("part f s", "no"), ("part o f", "no"),
            ("tame s", "yes"), ("calm s", "no"), ("tame v", "yes"), ("calm v", "yes"), ("tame o", "yes"), ("calm o", "yes"), ("calm e", "no"),
            ("sides s e", "2"), ("sides s o", "24"), ("sides v v", "1"), ("sides s v", "6"),
        )
        self.answers(("make a 5 (0,1,2,3,4) (0,1,2)", "60"), ("tame a", "no"), ("calm a", "no"))

    def test_against_the_groups(self):
        group = Group(4, [(1, 2, 3, 0), (1, 0, 2, 3)])
        even = Group(4, [(1, 2, 0, 3), (0, 2, 3, 1)])
        for k, one in enumerate(FOUR):
            text = shown(one)
            self.answers((f"nth s {k}", text), (f"place s {text}", str(k)), (f"least e {text}", shown(even.least(one))))
            self.answers((f"has e {text}", "yes" if even.has(one) else "no"))
            self.assertEqual(worked(read_recipe(self.desk.say(f"word s {text}"), 2), group.told(), 4)[-1], one)
        for place, to in itertools.product(range(4), repeat=2):
            way = Ring(group, Places(4), place).way(to)
            self.answers((f"way s {place} {to}", ",".join(str(number) for number in way)))

    def test_asking_changes_nothing(self):
        before = all_that_stands(self.desk)
        for first in FIXED:
            if "new" not in FIXED[first] and first != "drop":
                self.desk.say(line_of(first))
        self.assertEqual(all_that_stands(self.desk), before)

    def test_what_the_deed_refuses(self):
        self.refused(NoNumber, "nth s 24", "nth o 1", "nth s " + "9" * 90)
        self.refused(NotIn, "place e (0,1)", "word e (0,1)", "place o (0,1)", "word o (0,1,2,3)", "way f 0 2", "way o 0 1", "way f 4 0")
        self.refused(NotPart, "sides e s", "sides s f", "sides f o", "shadow x e s", "shadow x s f", "closed x s f", "mixed e o s", "sides v e")
        self.refused(NoGroup, "join x s f", "join x f s", "common x s f", "common s f o")
        self.answers(("make p 30 (0,1,2,3,4,5,6,7,8,9) (10,11,12,13,14,15,16,17,18,19) (20,21,22,23,24,25,26,27,28,29)", "1000"), ("make q 30", "1"))
        self.answers(("sides p q", "1000"), ("common x p q", "1"))
        self.answers(("make p 31 (0,1,2,3,4,5,6) (7,8,9,10,11,12,13,14,15,16,17) (18,19,20,21,22,23,24,25,26,27,28,29,30)", "1001"), ("make q 31", "1"))
        self.refused(TooMany, "sides p q", "common x p q", "shadow x p q")


class RefusedTest(Base):
    def test_what_is_no_text(self):
        self.refused(NoLine, *[thing for thing in ANYTHING if not isinstance(thing, str)], ["names"], ("names",), b"names", 3)
        self.refused(NoLine, *[thing for thing in ANYTHING if isinstance(thing, str)])

    def test_first_words_that_there_are_not(self):
        self.refused(NoLine, "", " ", "  ", "nothing", "Names", "NAMES", "name", "makes a 3", "Make a 3", "s", "size\ts", "names\n", "\nnames", "told,s")

    def test_every_line_with_another_number_of_words(self):
        for first in FIXED:
            words = line_of(first).split(" ")
            fewer = [" ".join(words[:count]) for count in range(1, len(words))]
            more = [] if first == "make" else [" ".join(words + ["s"]), " ".join(words + ["s"] * 30)]
            blanks = [] if first == "make" else [line_of(first) + " ", " ".join(words[:1] + [""] + words[1:] + [""])]
            self.refused(NoLine, *fewer, *more, *blanks, " " + line_of(first))
        # Ahead of whatever is wrong in the words.
        self.refused(NoLine, "size A b", "fix A B", "has nothing", "names s", "drop", "nth s 01 2", "way s 0", "join x s", "about x s")

    def test_blanks_too_many(self):
        self.refused(NoLine, " names", "names ", "size  s", "size s ", " size s", "join x s  e", "way s 0  1")
        # A word without signs, where the number of words fits.
        self.refused(NoName, "size ", "make  4", "drop ", "fix  s 0", "fix x  0", "join x s ", "join x  s", "same  s", "tame ")
        self.refused(NoText, "fix x s ", "has s ", "way s 0 ", "way s  0", "nth s ", "make x ", "make x 4 ", "make x  (0,1)", "net x s ")

    def test_names_that_are_none(self):
        for first in FIXED:
            for name in NO_NAMES:
                if "new" in FIXED[first]:
                    self.refused(NoName, line_of(first, new=name))
                if "name" in FIXED[first].split():
                    self.refused(NoName, line_of(first, name=name))

    def test_names_by_which_no_group_stands(self):
        for first in FIXED:
            if "name" in FIXED[first].split():
                self.refused(NoName, line_of(first, name="x"), line_of(first, name="nothing"))
        self.refused(NoName, "join x s y", "join x y s", "same s y", "same y s", "part y y", "closed x s x", "sides s x", "mixed x x s")

    def test_other_words(self):
        for first in FIXED:
            for kind in FIXED[first].split():
                for word in NO_WORDS.get(kind, ()):
                    self.refused(NoText, line_of(first, **{kind: word}))
        self.refused(NoText, "way s 0 4", "way s 4 0", "way s 0 00", "make x 4 (0,1) (0,1) (4,0)")

    def test_from_the_left(self):
        # The first wrong word counts, whatever comes behind.
        self.refused(NoName, "fix X s 9", "fix x y 9", "fix X y 9", "has y (0)", "nth y x", "make X 99", "about x y ()()", "way y a b", "net X s 0")
        self.refused(NoText, "make x 99 (0,1)", "make x 4 (0) (0,1)", "way s 9 0", "way s 0 9")
        self.refused(NoName, "join X s f", "common x s y", "closed x y s")

    def test_words_ahead_of_the_deed(self):
        self.refused(NoText, "nth s 024", "place e (0,1)(0,1)", "way f 0 5", "hold x s 0,0")
        self.refused(NoName, "sides e y", "join x y f", "closed X e s", "join X s f", "shadow X e s")

    def test_places_are_those_of_the_group_named_last(self):
        self.answers(("has f (0,4)", "no"), ("ring f 4", "4"), ("least f (4,3)", "(3,4)"), ("about x f (0,4)", "2"), ("ring x 4", "1,4"))
        self.refused(NoText, "has s (0,4)", "ring s 4", "about f s (0,4)", "fix f s 4", "net f s 0-4", "hold f s 4", "goes f s (0,4)")

    def test_a_place_of_two_figures(self):
        self.answers(("make a 60 (59,10)", "2"), ("ring a 59", "10,59"), ("way a 10 59", "0"), ("fix b a 59", "1"), ("base a", "10"))
        self.refused(NoText, "ring a 60", "ring a 059", "ring a 590")


class ManyLinesTest(Base):
    def test_the_cube(self):
        self.answers((make_line("cube", Group(48, CUBE)), "43252003274489856000"), ("tame cube", "no"), ("calm cube", "no"))
        self.answers(("mixed half cube cube", "21626001637244928000"), ("sides cube half", "2"), ("part half cube", "yes"), ("same half cube", "no"))
        last = self.desk.say("nth cube 43252003274489855999")
        self.answers((f"place cube {last}", "43252003274489855999"), (f"has cube {last}", "yes"))
        lines = read_recipe(self.desk.say(f"word cube {last}"), 6)
        self.assertEqual(shown(worked(lines, CUBE, 48)[-1]), last)
        self.answers((f"about turned cube {shown(mixed_up(48, 1))}", "43252003274489856000"), ("same turned cube", "no"))
        self.answers((f"about same cube {shown(CUBE[0])}", "43252003274489856000"), ("same same cube", "yes"))

    def test_a_way_of_makers_that_were_told(self):
        self.answers(("make a 6 (0,1) (1,2) (2,3) (3,4) (4,5)", "720"), ("way a 0 5", "0,1,2,3,4"), ("way a 5 0", "4,3,2,1,0"))
        self.answers(("hold b a 0,1,2", "36"), ("net c a 0-1,2-3,4-5", "48"), ("common d b c", "4"), ("join e b c", "720"), ("goes g a (0,1)", "48"))
        self.answers(("part d b", "yes"), ("part d c", "yes"), ("sides a b", "20"), ("shadow h a b", "720"), ("ring h 19", ",".join(map(str, range(20)))))
        self.answers(("fix k h 0", "36"), ("same e a", "yes"), ("names", "a b c d e f g h k o s v"))

    def test_the_same_lines_tell_the_same(self):
        lines = ["make a 6 (0,1,2,3,4,5) (1,5)(2,4)", "hold b a 0,3", "told b", "goes c a (0,3)(1,4)(2,5)", "told c", "word c (0,3)(1,4)(2,5)", "way a 5 2"]
        desk = Desk()
        told = [desk.say(line) for line in lines]
        self.assertEqual([desk_with(*lines[:k]).say(line) for k, line in enumerate(lines)], told)

    def test_loops_of_any_order_are_told_in_their_own(self):
        self.answers(("make a 6 (5,4)(3,1,2)", "6"), ("told a", "(1,2,3)(4,5)"), ("has a (5,4)", "yes"), ("nth a 5", shown(loop(6, 1, 3, 2)[:4] + (5, 4))))
