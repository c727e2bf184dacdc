import copy
import unittest

from helpers import GREAT, Ill
from turnbase.errors import NoRecipe, NoText, TooMany
from turnbase.recipes import (
    is_recipe, lengths, read_recipe, shown_recipe, spelled, trimmed, walked, worked,
)
from turnbase.turnings import back, behind, power, still

ONE, OTHER = (1, 2, 0, 3), (0, 1, 3, 2)
MAKERS = [ONE, OTHER]
LINES = [
    ("told", 1), ("still",), ("told", 0), ("behind", 2, 0), ("back", 3), ("behind", 4, 1), ("behind", 5, 5), ("told", 1),
]


def doubled(times):
    """A recipe that sets the first maker behind itself, again and again."""
    return [("told", 0)] + [("behind", line, line) for line in range(times)]


NO_LINES = (
    None, 0, True, "still", "", b"still", [], ["still"], ["told", 0], {}, {"still"}, (), (None,), (0,), ("",), (("still",),),
    (["still"],), ({},), (Ill(),), Ill(), object, ("Still",), ("STILL",), ("still ",), (" still",), ("stil",), ("other",), (b"still",),
    ("still", 0), ("still", None), ("told",), ("told", 0, 0), ("told", 0, None), ("behind",), ("behind", 0), ("behind", 0, 0, 0),
    ("back",), ("back", 0, 0), ("told", -1), ("told", 2), ("told", GREAT), ("told", -GREAT), ("back", -1), ("back", GREAT),
    ("behind", -1, 0), ("behind", 0, -1), ("behind", 0, GREAT), ("behind", -GREAT, 0),
    ("told", True), ("told", False), ("back", False), ("behind", False, 0), ("behind", 0, False),
    ("told", 0.0), ("told", "0"), ("told", None), ("told", [0]), ("told", (0,)), ("told", Ill()), ("told", 1j), ("told", b"0"),
    ("back", 0.0), ("back", "0"), ("back", None), ("back", []), ("back", Ill()), ("behind", 0, "0"), ("behind", None, 0),
    ("behind", 0, 0.0), ("behind", [0], 0), (0, "told"),
)
NO_LISTS = (None, 0, 1, True, "", "still", b"still", (), (("still",),), ("still",), {}, {0: ("still",)}, {("still",)}, [], Ill(), list)


class IsRecipeTest(unittest.TestCase):
    def test_all_kinds_of_line(self):
        self.assertIs(is_recipe([("still",)], 0), True)
        self.assertIs(is_recipe([("told", 0)], 1), True)
        self.assertIs(is_recipe([("still",), ("back", 0)], 0), True)
        self.assertIs(is_recipe([("still",), ("behind", 0, 0)], 0), True)
        self.assertIs(is_recipe(LINES, 2), True)
        self.assertIs(is_recipe(doubled(19999), 1), True)

    def test_makers_that_are_there(self):
        self.assertIs(is_recipe([("told", 0)], 0), False)
        self.assertIs(is_recipe([("told", 1)], 2), True)
        self.assertIs(is_recipe([("told", 2)], 2), False)
        self.assertIs(is_recipe([("told", 999999)], 1000000), True)
        self.assertIs(is_recipe([("told", 1000000)], 1000000), False)
        self.assertIs(is_recipe(LINES, 1), False)

    def test_lines_ahead(self):
        self.assertIs(is_recipe([("back", 0)], 9), False)
        self.assertIs(is_recipe([("behind", 0, 0)], 9), False)
        for number in (1, 2, 8):
            self.assertIs(is_recipe([("still",), ("back", number)], 9), False)
            self.assertIs(is_recipe([("still",), ("behind", number, 0)], 9), False)
            self.assertIs(is_recipe([("still",), ("behind", 0, number)], 9), False)
            self.assertIs(is_recipe([("still",), ("back", number), ("still",), ("still",)], 9), False)
        self.assertIs(is_recipe([("still",), ("still",), ("behind", 1, 0), ("back", 2)], 9), True)

    def test_what_is_no_list_of_lines(self):
        for thing in NO_LISTS:
            self.assertIs(is_recipe(thing, 2), False)

    def test_what_is_no_line(self):
        for line in NO_LINES:
            self.assertIs(is_recipe([line], 2), False)
            self.assertIs(is_recipe([("still",), line], 2), False)
            self.assertIs(is_recipe([("still",), line, ("still",)], 2), False)


class WorkedTest(unittest.TestCase):
    def test_each_kind_of_line(self):
        self.assertEqual(worked([("still",)], [], 3), [(0, 1, 2)])
        self.assertEqual(worked([("still",)], [], 60), [tuple(range(60))])
        self.assertEqual(worked([("told", 1)], MAKERS, 4), [OTHER])
        self.assertEqual(worked([("told", 0), ("back", 0)], MAKERS, 4), [ONE, (2, 0, 1, 3)])
        lines = [("told", 0), ("told", 1), ("behind", 0, 1), ("behind", 1, 0)]
        self.assertEqual(worked(lines, MAKERS, 4), [ONE, OTHER, behind(ONE, OTHER), behind(OTHER, ONE)])
        self.assertNotEqual(behind(ONE, OTHER), behind(OTHER, ONE))

    def test_the_example_of_behind(self):
        lines = [("told", 0), ("told", 1), ("behind", 0, 1)]
        self.assertEqual(worked(lines, [(1, 2, 0), (0, 2, 1)], 3)[-1], (2, 1, 0))

    def test_all_lines_in_their_order(self):
        backward = back(behind(ONE, OTHER))
        self.assertEqual(
            worked(LINES, MAKERS, 4),
            [OTHER, still(4), ONE, behind(ONE, OTHER), backward, backward, behind(backward, backward), OTHER],
        )

    def test_long_recipes(self):
        self.assertEqual(worked(doubled(5000), MAKERS, 4)[-1], power(ONE, pow(2, 5000, 3)))

    def test_what_is_no_recipe(self):
        for thing in NO_LISTS:
            with self.assertRaises(NoRecipe):
                worked(thing, MAKERS, 4)
        for line in NO_LINES:
            for lines in ([line], [("still",), line], [("still",), line, ("still",)]):
                with self.assertRaises(NoRecipe):
                    worked(lines, MAKERS, 4)

    def test_makers_and_lines_that_are_not_there(self):
        wrong = ([("told", 2)], [("back", 0)], [("still",), ("back", 1)], [("still",), ("behind", 0, 1)], [("still",), ("behind", 1, 0)])
        for lines in wrong:
            with self.assertRaises(NoRecipe):
                worked(lines, MAKERS, 4)
        with self.assertRaises(NoRecipe):
            worked([("told", 0)], [], 4)


class LettersTest(unittest.TestCase):
    def test_each_kind_of_line(self):
        self.assertEqual(spelled([("still",)]), [])
        self.assertEqual(spelled([("told", 0)]), [0])
        self.assertEqual(spelled([("told", 7)]), [7])
        self.assertEqual(spelled([("told", 0), ("back", 0)]), [-1])
        self.assertEqual(spelled([("told", 7), ("back", 0)]), [-8])
        self.assertEqual(spelled([("told", 7), ("back", 0), ("back", 1)]), [7])
        self.assertEqual(spelled([("told", 7), ("told", 2), ("behind", 0, 1)]), [7, 2])
        self.assertEqual(spelled([("told", 7), ("told", 2), ("behind", 1, 0)]), [2, 7])
        self.assertEqual(spelled([("still",), ("back", 0), ("behind", 0, 1)]), [])

    def test_back_turns_the_order_and_exchanges(self):
        lines = [("told", 0), ("told", 1), ("back", 1), ("behind", 0, 2), ("behind", 3, 0), ("back", 4)]
        self.assertEqual(spelled(lines[:5]), [0, -2, 0])
        self.assertEqual(spelled(lines[:4] + [("back", 3)]), [1, -1])
        self.assertEqual(spelled(lines), [-1, 1, -1])

    def test_the_last_line_tells(self):
        self.assertEqual(spelled(LINES), [1])
        self.assertEqual(spelled(LINES[:7]), [-2, -1, -2, -1])

    def test_how_many_letters_each_line_has(self):
        self.assertEqual(lengths([("still",)]), [0])
        self.assertEqual(lengths(LINES), [1, 0, 1, 2, 2, 2, 4, 1])
        for end in range(1, len(LINES) + 1):
            self.assertEqual(lengths(LINES)[end - 1], len(spelled(LINES[:end])))

    def test_exactly_a_thousand_and_one_more(self):
        # Its lines 9, 8, 7, 6, 5 and 3 have 512, 256, 128, 64, 32 and 8 letters: a thousand in all.
        lines = doubled(9) + [("behind", 9, 8), ("behind", 10, 7), ("behind", 11, 6), ("behind", 12, 5), ("behind", 13, 3)]
        self.assertEqual(lengths(lines)[-1], 1000)
        self.assertEqual(spelled(lines), [0] * 1000)
        self.assertEqual(spelled(lines + [("back", 14)]), [-1] * 1000)
        self.assertEqual(spelled(lines + [("still",), ("behind", 14, 15)]), [0] * 1000)
        more = lines + [("behind", 14, 0)]
        self.assertEqual(lengths(more)[-1], 1001)
        for wrong in (more, more + [("back", 15)], doubled(10)):
            with self.assertRaises(TooMany):
                spelled(wrong)

    def test_far_too_many_letters(self):
        lines = doubled(3000)
        self.assertEqual(lengths(lines), [2 ** times for times in range(3001)])
        with self.assertRaises(TooMany):
            spelled(lines)

    def test_lines_that_the_last_one_does_not_need(self):
        lines = doubled(3000) + [("back", 3000), ("back", 1)]
        self.assertEqual(lengths(lines)[-2:], [2 ** 3000, 2])
        self.assertEqual(spelled(lines), [-1, -1])
        self.assertEqual(spelled(doubled(3000) + [("still",)]), [])

    def test_long_rows_of_lines_without_many_letters(self):
        self.assertEqual(spelled([("told", 3)] + [("back", line) for line in range(15001)]), [-4])
        self.assertEqual(spelled([("still",)] + [("behind", line, line) for line in range(15000)]), [])


class WalkedTest(unittest.TestCase):
    def test_no_letters(self):
        self.assertEqual(walked([], MAKERS, 4), still(4))
        self.assertEqual(walked([], [], 60), still(60))

    def test_makers_and_their_backs(self):
        self.assertEqual(walked([0], MAKERS, 4), ONE)
        self.assertEqual(walked([1], MAKERS, 4), OTHER)
        self.assertEqual(walked([-1], MAKERS, 4), back(ONE))
        self.assertEqual(walked([-2], MAKERS + [(3, 2, 1, 0)], 4), back(OTHER))
        self.assertEqual(walked([-3], MAKERS + [(1, 2, 3, 0)], 4), (3, 0, 1, 2))

    def test_one_behind_the_other(self):
        self.assertEqual(walked([0, 1], MAKERS, 4), behind(ONE, OTHER))
        self.assertEqual(walked([1, 0], MAKERS, 4), behind(OTHER, ONE))
        self.assertEqual(walked([0, -2, -1], MAKERS, 4), behind(behind(ONE, back(OTHER)), back(ONE)))
        self.assertEqual(walked([0] * 1000, MAKERS, 4), power(ONE, 1000))

    def test_walking_the_letters_makes_what_the_recipe_makes(self):
        for end in range(1, len(LINES) + 1):
            lines = LINES[:end]
            self.assertEqual(walked(spelled(lines), MAKERS, 4), worked(lines, MAKERS, 4)[-1])


class TrimmedTest(unittest.TestCase):
    def test_one_line(self):
        self.assertEqual(trimmed([("still",)]), [("still",)])
        self.assertEqual(trimmed([("told", 5)]), [("told", 5)])

    def test_needed_lines_stay(self):
        lines = LINES[:7]
        self.assertEqual(trimmed(lines), lines)

    def test_other_lines_go(self):
        self.assertEqual(trimmed(LINES), [("told", 1)])
        self.assertEqual(trimmed([("told", 9), ("told", 8), ("back", 1)]), [("told", 8), ("back", 0)])
        # Named by a line that goes is not needed.
        self.assertEqual(trimmed([("told", 0), ("back", 0), ("still",)]), [("still",)])

    def test_numbers_are_counted_anew(self):
        lines = [
            ("still",), ("told", 3), ("back", 0), ("told", 2), ("behind", 1, 2), ("behind", 3, 1), ("told", 1), ("back", 5), ("behind", 7, 3),
        ]
        self.assertEqual(trimmed(lines), [("told", 3), ("told", 2), ("behind", 1, 0), ("back", 2), ("behind", 3, 1)])

    def test_numbers_of_makers_stay(self):
        self.assertEqual(trimmed([("still",), ("told", 1), ("back", 1)]), [("told", 1), ("back", 0)])

    def test_alike_lines_stay_apart(self):
        lines = [("told", 0), ("told", 0), ("told", 0), ("behind", 0, 2)]
        self.assertEqual(trimmed(lines), [("told", 0), ("told", 0), ("behind", 0, 1)])

    def test_a_line_named_twice_stays_once(self):
        lines = [("still",), ("told", 0), ("behind", 1, 1), ("behind", 2, 1)]
        self.assertEqual(trimmed(lines), [("told", 0), ("behind", 0, 0), ("behind", 1, 0)])

    def test_trimmed_again_it_stays_and_makes_the_same(self):
        for end in range(1, len(LINES) + 1):
            lines = LINES[:end]
            once = trimmed(lines)
            self.assertEqual(trimmed(once), once)
            self.assertEqual(worked(once, MAKERS, 4)[-1], worked(lines, MAKERS, 4)[-1])
            self.assertEqual(spelled(once), spelled(lines))

    def test_long_recipes(self):
        lines = doubled(15000)
        self.assertEqual(trimmed(lines), lines)
        self.assertEqual(trimmed([("still",)] + [("told", 0)] * 15000), [("told", 0)])


class ShownRecipeTest(unittest.TestCase):
    def refused(self, text, count):
        with self.assertRaises(NoText, msg=repr(text)):
            read_recipe(text, count)

    def test_each_kind_of_line(self):
        self.assertEqual(shown_recipe([("still",)]), "still")
        self.assertEqual(shown_recipe([("told", 12)]), "told 12")
        self.assertEqual(
            shown_recipe([("told", 1), ("still",), ("behind", 1, 0), ("back", 2)]), "told 1; still; behind 1 0; back 2",
        )

    def test_there_and_back(self):
        for lines, count in ((LINES, 2), ([("still",)], 0), ([("told", 999999)], 1000000), (doubled(1000), 1)):
            self.assertEqual(read_recipe(shown_recipe(lines), count), lines)
        text = "told 1; still; behind 1 0; back 2"
        self.assertEqual(shown_recipe(read_recipe(text, 2)), text)

    def test_lines_are_tuples_of_texts_and_whole_numbers(self):
        self.assertEqual(read_recipe("still; told 0; behind 0 1; back 2", 1), [("still",), ("told", 0), ("behind", 0, 1), ("back", 2)])
        self.assertIs(is_recipe(read_recipe("still; told 0; behind 0 1; back 2", 1), 1), True)

    def test_blanks_and_marks(self):
        wrong = (
            "", " ", ";", "; ", ";; ", " still", "still ", "still;", "still; ", "; still", ";still", "still;still", "still ;still",
            "still ; still", "still;  still", "still; still ", "still; still;", "still; still; ", "still; ; still", "still, still",
            "still\nstill", "still;\nstill", "still\n", "told  0", "told 0 ", " told 0", "told\t0", "told 0\n", "told 0;", "told0",
            "told 0; behind 0  0", "told 0; behind 0,0", "told 0; back  0", "told 0;back 0", "still still",
        )
        for text in wrong:
            self.refused(text, 2)

    def test_words_and_how_many_numbers(self):
        wrong = (
            "x", "Still", "STILL", "stil", "stills", "0", "('still',)", "still 0", "told", "told 0 0", "told 0 ; still", "told 0; back",
            "told 0; back 0 0", "told 0; behind 0", "told 0; behind", "told 0; behind 0 0 0", "told 0; x 0", "told 0; 0", "told told", "told x",
        )
        for text in wrong:
            self.refused(text, 2)

    def test_numbers(self):
        for word in ("00", "01", "001", "-0", "-1", "+0", "+1", "0.0", "1_0", "0x0", "1e0", "a", "0000001", "1000000", "9999999"):
            self.refused("told " + word, 10 ** 6)
            self.refused("told 0; still; back " + word, 10 ** 6)
            self.refused("told 0; still; behind 0 " + word, 10 ** 6)
            self.refused("told 0; still; behind " + word + " 0", 10 ** 6)

    def test_six_figures_and_seven(self):
        self.assertEqual(read_recipe("told 100000", 10 ** 6), [("told", 100000)])
        self.assertEqual(read_recipe("told 999999", 10 ** 6), [("told", 999999)])
        # Beyond a million makers the number alone is what is wrong.
        self.refused("told 1000000", 10 ** 6 + 1)

    def test_makers_and_lines_that_are_not_there(self):
        self.assertEqual(read_recipe("told 1", 2), [("told", 1)])
        wrong = (
            "told 2", "back 0", "behind 0 0", "still; back 1", "still; behind 0 1", "still; behind 1 0", "still; back 2; still",
            "still; told 2", "told 2; still",
        )
        for text in wrong:
            self.refused(text, 2)
        self.refused("told 0", 0)

    def test_no_text_at_all(self):
        for thing in (None, 0, True, 0.5, b"still", [], ["still"], [("still",)], ("still",), (), {}, Ill(), str):
            with self.assertRaises(NoText):
                read_recipe(thing, 2)


class HandedInAndToldTest(unittest.TestCase):
    def test_nothing_that_is_handed_in_is_changed(self):
        lines, makers, letters = copy.deepcopy(LINES), list(MAKERS), [0, -2, 1]
        is_recipe(lines, 2)
        worked(lines, makers, 4)
        lengths(lines)
        spelled(lines)
        trimmed(lines)
        shown_recipe(lines)
        walked(letters, makers, 4)
        self.assertEqual(lines, LINES)
        self.assertEqual(makers, MAKERS)
        self.assertEqual(letters, [0, -2, 1])

    def test_changing_what_was_told_changes_no_later_answer(self):
        lines = list(LINES[:7])
        asked = (
            lambda: worked(lines, MAKERS, 4), lambda: lengths(lines), lambda: spelled(lines), lambda: trimmed(lines),
            lambda: read_recipe("still; told 0; behind 0 1", 2), lambda: spelled([("still",)]), lambda: trimmed([("still",)]),
        )
        for ask in asked:
            before = copy.deepcopy(ask())
            told = ask()
            told.append("more")
            told[0] = "other"
            self.assertEqual(ask(), before)
            self.assertEqual(lines, LINES[:7])

    def test_changing_what_was_handed_in_changes_nothing_told(self):
        lines, makers = list(LINES[:7]), list(MAKERS)
        made, short = worked(lines, makers, 4), trimmed(lines)
        lines.clear()
        makers.clear()
        self.assertEqual(made, worked(LINES[:7], MAKERS, 4))
        self.assertEqual(short, LINES[:7])
