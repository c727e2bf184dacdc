import itertools
import unittest

from turnbase.errors import NoText
from turnbase.texts import read, read_number, read_pairs, read_places, shown
from turnbase.turnings import still

FOUR = list(itertools.permutations(range(4)))
ROUND = tuple(range(1, 60)) + (0,)
SWAPS = tuple(place ^ 1 for place in range(60))
NO_TEXTS = (None, 0, 7, True, 0.5, 1j, b"0", b"()", b"0-1", [], ["()"], ["0"], (), ("0",), (0, 1), {}, {"0": 0}, str, object())
# Each stands where one place should: none of these is a place, of however many places.
NO_PLACES = (
    "", " ", " 0", "0 ", "00", "01", "07", "000", "001", "010", "100", "-1", "-0", "+1", "1.0", "1_0", "_1", "x", "0x1", "1e1",
    "a", "(0", "0)", "()", "(1)", "[1]", "0;", "\t1", "1\n", "\n", "1\r", "\x00", "0/1", "0:1", "9999",
)


class Base(unittest.TestCase):
    def refused(self, reader, *told):
        with self.assertRaises(NoText, msg=repr(told)):
            reader(*told)


class ShownTest(unittest.TestCase):
    def test_loops_side_by_side(self):
        self.assertEqual(shown((3, 2, 1, 5, 4, 0)), "(0,3,5)(1,2)")
        self.assertEqual(shown((0, 4, 3, 2, 1)), "(1,4)(2,3)")
        self.assertEqual(shown((2, 0, 1)), "(0,2,1)")

    def test_the_still_one(self):
        self.assertEqual(shown((0,)), "()")
        self.assertEqual(shown(still(60)), "()")

    def test_sixty_places(self):
        self.assertEqual(shown(ROUND), "(" + ",".join(str(place) for place in range(60)) + ")")
        self.assertEqual(shown(SWAPS), "".join(f"({place},{place + 1})" for place in range(0, 60, 2)))


class ReadTest(Base):
    def test_there_and_back(self):
        for one in FOUR + [(0,), (1, 0), ROUND, SWAPS, still(59), still(60)]:
            self.assertEqual(read(shown(one), len(one)), one)
            self.assertIsInstance(read(shown(one), len(one)), tuple)

    def test_the_still_one(self):
        self.assertEqual(read("()", 1), (0,))
        self.assertEqual(read("()", 60), tuple(range(60)))

    def test_places_that_are_not_named_stay(self):
        self.assertEqual(read("(1,2)", 4), (0, 2, 1, 3))
        self.assertEqual(read("(0,59)", 60), (59,) + tuple(range(1, 59)) + (0,))

    def test_loops_in_any_order_begun_anywhere(self):
        one = (3, 2, 1, 5, 4, 0)
        for text in ("(0,3,5)(1,2)", "(1,2)(0,3,5)", "(2,1)(3,5,0)", "(5,0,3)(2,1)", "(3,5,0)(1,2)"):
            self.assertEqual(read(text, 6), one)
        self.assertEqual(read("(5,3,0)(1,2)", 6), (5, 2, 1, 0, 4, 3))

    def test_places_twice(self):
        for text in ("(0,0)", "(0,1,0)", "(0,1,1)", "(0,1)(1,2)", "(0,1)(2,0)", "(0,1)(0,1)", "(0,1)(1,0)", "(0,1)(2,3)(4,0)"):
            self.refused(read, text, 6)

    def test_loops_of_one_place_or_none(self):
        for text in ("(0)", "(5)", "(0)(1,2)", "(1,2)(0)", "()()", "()(0,1)", "(0,1)()", "(0,1)()(2,3)", "(())"):
            self.refused(read, text, 6)

    def test_places_that_are_not_there(self):
        self.assertEqual(read("(0,5)", 6), (5, 1, 2, 3, 4, 0))
        self.refused(read, "(0,6)", 6)
        self.refused(read, "(6,0)", 6)
        self.refused(read, "(0,1)(2,6)", 6)
        self.refused(read, "(0,60)", 60)
        self.refused(read, "(0,99)", 60)
        self.refused(read, "(0,1)", 1)
        self.refused(read, "(0,100)", 60)

    def test_signs_too_many_or_too_few(self):
        wrong = (
            "", " ", "(", ")", ")(", "((", "))", "0", "0,1", "(0,1", "0,1)", "0,1(", ")0,1(", "((0,1)", "(0,1))", "((0,1))",
            "(0,1)(", "(0,1))(2,3)", "(0,1)((2,3)", "(0,1(2,3)", "(0,1)2,3)", "(0,1),(2,3)", "(0,1)2", "2(0,1)", "(0,,1)", "(,0,1)",
            "(0,1,)", "(,)", "(,,)", "(0;1)", "(0.1)", "(0-1)", "[0,1]", "(0,1)x", "x(0,1)", "(0 1)", "(0)1)", "(01)", "(0(1)",
            "x0,1)", ")0,1)", "00,1)", "(0,1x", "(0,1(", "(0,10", "x0,1x", "(0,1)(2,3x", "x0,1)(2,3)",
        )
        for text in wrong:
            self.refused(read, text, 6)

    def test_blanks(self):
        for text in (" (0,1)", "(0,1) ", "( 0,1)", "(0 ,1)", "(0, 1)", "(0,1 )", "(0,1) (2,3)", "( )", " ()", "() ", "()\n", "(0,1)\n"):
            self.refused(read, text, 6)

    def test_no_places(self):
        for word in NO_PLACES:
            self.refused(read, f"({word},5)", 60)
            self.refused(read, f"(5,{word})", 60)
            self.refused(read, f"(2,3)(5,{word})", 60)

    def test_no_text_at_all(self):
        for thing in NO_TEXTS:
            self.refused(read, thing, 6)


class ReadNumberTest(Base):
    def test_numbers(self):
        for number in (0, 1, 9, 10, 59, 100, 101, 12345678901234567890):
            self.assertEqual(read_number(str(number)), number)
            self.assertIs(type(read_number(str(number))), int)

    def test_ninety_figures(self):
        self.assertEqual(read_number("9" * 90), 10 ** 90 - 1)
        self.assertEqual(read_number("1" + "0" * 89), 10 ** 89)
        self.refused(read_number, "1" + "0" * 90)
        self.refused(read_number, "9" * 91)
        self.refused(read_number, "9" * 20000)

    def test_wrong_texts(self):
        wrong = (
            "", " ", "00", "01", "007", "0" * 90, "0" + "9" * 89, "-1", "-0", "+1", "+0", " 1", "1 ", "1 2", "1_0", "1,0", "1.0", "1e3",
            "0x1", "x", "a1", "1a", "1\n", "\n1", "\t1", "/", ":", "1/", "1:", "-", "--1", "()",
        )
        for text in wrong:
            self.refused(read_number, text)

    def test_no_text_at_all(self):
        for thing in NO_TEXTS:
            self.refused(read_number, thing)

    def test_every_sign_that_is_no_figure(self):
        for sign in map(chr, range(128)):
            if not sign.isdigit():
                for text in (sign, sign + "1", "1" + sign, "1" + sign + "1"):
                    self.refused(read_number, text)


class ReadPlacesTest(Base):
    def test_in_the_order_of_the_text(self):
        self.assertEqual(read_places("0", 1), [0])
        self.assertEqual(read_places("5,0,3", 6), [5, 0, 3])
        self.assertEqual(read_places("59,10,0", 60), [59, 10, 0])
        row = list(range(59, -1, -1))
        self.assertEqual(read_places(",".join(map(str, row)), 60), row)

    def test_alike_places(self):
        for text in ("0,0", "1,2,1", "1,2,2", "0,1,2,3,4,5,0"):
            self.refused(read_places, text, 6)

    def test_places_that_are_not_there(self):
        self.refused(read_places, "6", 6)
        self.refused(read_places, "0,6", 6)
        self.refused(read_places, "1", 1)
        self.refused(read_places, "60", 60)

    def test_wrong_texts(self):
        for text in ("", ",", "0,", ",0", "0,,1", "0, 1", "0 ,1", "0 1", "0;1", "0-1", "(0,1)", " 0", "0 ", "0\n", "0,1\n"):
            self.refused(read_places, text, 6)

    def test_no_places(self):
        for word in NO_PLACES:
            self.refused(read_places, word, 60)
            self.refused(read_places, f"{word},5", 60)
            self.refused(read_places, f"5,{word}", 60)

    def test_no_text_at_all(self):
        for thing in NO_TEXTS:
            self.refused(read_places, thing, 6)

    def test_told_lists_are_the_askers_own(self):
        read_places("1,2", 6).append(3)
        read_pairs("1-2", 6).append((3, 4))
        self.assertEqual(read_places("1,2", 6), [1, 2])
        self.assertEqual(read_pairs("1-2", 6), [(1, 2)])


class ReadPairsTest(Base):
    def test_each_as_written_in_the_order_of_the_text(self):
        self.assertEqual(read_pairs("0-1", 2), [(0, 1)])
        self.assertEqual(read_pairs("5-0,1-3,0-1", 6), [(5, 0), (1, 3), (0, 1)])
        self.assertEqual(read_pairs("59-10,10-0", 60), [(59, 10), (10, 0)])
        for pair in read_pairs("5-0,1-3", 6):
            self.assertIsInstance(pair, tuple)

    def test_all_pairs_of_sixty_places(self):
        pairs = list(itertools.combinations(range(60), 2))
        self.assertEqual(read_pairs(",".join(f"{one}-{other}" for one, other in pairs), 60), pairs)

    def test_alike_pairs_in_either_order(self):
        for text in ("0-1,0-1", "0-1,1-0", "2-3,0-1,3-2", "1-0,2-3,1-0"):
            self.refused(read_pairs, text, 6)

    def test_a_pair_of_alike_places(self):
        for text in ("0-0", "5-5", "0-1,2-2"):
            self.refused(read_pairs, text, 6)

    def test_places_that_are_not_there(self):
        for text in ("0-6", "6-0", "0-1,0-6"):
            self.refused(read_pairs, text, 6)
        self.refused(read_pairs, "0-1", 1)
        self.refused(read_pairs, "0-60", 60)

    def test_wrong_texts(self):
        wrong = (
            "", "-", "0", "0,1", "0-", "-0", "0--1", "-0-1", "0-1-", "0-1-2", "0-1,", ",0-1", "0-1,,2-3", "0-1,2", "2,0-1", "0 -1", "0- 1",
            " 0-1", "0-1 ", "0-1, 2-3", "0-1;2-3", "0-1 2-3", "(0-1)", "0+1", "0_1", "0-1\n",
        )
        for text in wrong:
            self.refused(read_pairs, text, 6)

    def test_no_places(self):
        for word in NO_PLACES:
            self.refused(read_pairs, f"{word}-5", 60)
            self.refused(read_pairs, f"5-{word}", 60)
            self.refused(read_pairs, f"2-3,5-{word}", 60)

    def test_no_text_at_all(self):
        for thing in NO_TEXTS:
            self.refused(read_pairs, thing, 6)
