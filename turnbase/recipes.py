"""Recipes: lists of lines, each of which makes a turning of makers and lines ahead of it."""

from turnbase.errors import NoRecipe, NoText, TooMany
from turnbase.texts import need_text, read_figures
from turnbase.turnings import back, behind, is_whole, still

MOST_LETTERS = 1000
LINE_FIGURES = 6
NUMBERS_OF = {"still": 0, "told": 1, "behind": 2, "back": 1}


def is_line(thing, ahead, count):
    if not isinstance(thing, tuple) or len(thing) == 0:
        return False
    word = thing[0]
    # A word that is no text may be such as no dict can look up.
    if not isinstance(word, str) or word not in NUMBERS_OF:
        return False
    numbers = thing[1:]
    if len(numbers) != NUMBERS_OF[word]:
        return False
    bound = count if word == "told" else ahead
    return all([is_whole(number) and 0 <= number < bound for number in numbers])


def is_recipe(thing, count):
    if not isinstance(thing, list) or len(thing) == 0:
        return False
    return all([is_line(line, ahead, count) for ahead, line in enumerate(thing)])


def line_made(line, made, makers, many):
    word = line[0]
    if word == "still":
        return still(many)
    if word == "told":
        return makers[line[1]]
    if word == "back":
        return back(made[line[1]])
    return behind(made[line[1]], made[line[2]])


def worked(lines, makers, many):
    if not is_recipe(lines, len(makers)):
        raise NoRecipe("this is no recipe over these makers")
    made = []
    for line in lines:
        made.append(line_made(line, made, makers, many))
    return made


def lines_named(line):
    return line[1:] if line[0] in ("behind", "back") else ()


def lengths(lines):
    counts = []
    for line in lines:
        own = 1 if line[0] == "told" else 0
        counts.append(own + sum([counts[number] for number in lines_named(line)]))
    return counts


def line_letters(line, letters):
    word = line[0]
    if word == "still":
        return []
    if word == "told":
        return [line[1]]
    if word == "back":
        return [-1 - letter for letter in reversed(letters[line[1]])]
    return letters[line[1]] + letters[line[2]]


def spelled(lines):
    # Of the lines that stay none has more letters than the last one, so all can be spelled.
    staying = trimmed(lines)
    if lengths(staying)[-1] > MOST_LETTERS:
        raise TooMany("the recipe has more than a thousand letters")
    letters = []
    for line in staying:
        letters.append(line_letters(line, letters))
    return letters[-1]


def walked(letters, makers, many):
    here = still(many)
    for letter in letters:
        step = makers[letter] if letter >= 0 else back(makers[-1 - letter])
        here = behind(here, step)
    return here


def needed(lines):
    needs = [False] * len(lines)
    needs[-1] = True
    # From the last line on, so that each line is settled before it is asked what it names.
    for number in range(len(lines) - 1, -1, -1):
        if needs[number]:
            for named in lines_named(lines[number]):
                needs[named] = True
    return needs


def line_renamed(line, places):
    named = [places[number] for number in lines_named(line)]
    return tuple([line[0]] + named) if named else line


def trimmed(lines):
    staying = []
    places = {}
    for number, is_needed in enumerate(needed(lines)):
        if is_needed:
            places[number] = len(staying)
            staying.append(line_renamed(lines[number], places))
    return staying


def shown_line(line):
    return " ".join([str(part) for part in line])


def shown_recipe(lines):
    return "; ".join([shown_line(line) for line in lines])


def read_line(text):
    words = text.split(" ")
    return tuple(words[:1] + [read_figures(word, LINE_FIGURES) for word in words[1:]])


def read_recipe(text, count):
    need_text(text)
    lines = [read_line(part) for part in text.split("; ")]
    if not is_recipe(lines, count):
        raise NoText("this is no text of a recipe over so many makers")
    return lines
