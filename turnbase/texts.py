"""Turnings, numbers and rows of places as texts, written and read."""

from turnbase.errors import NoText
from turnbase.turnings import is_each_once, loops, still

FIGURES = "0123456789"
NUMBER_FIGURES = 90
PLACE_FIGURES = 2


def shown_loop(loop):
    inner = ",".join([str(place) for place in loop])
    return f"({inner})"


def shown(one):
    found = loops(one)
    if len(found) == 0:
        return "()"
    return "".join([shown_loop(loop) for loop in found])


def need_text(thing):
    if not isinstance(thing, str):
        raise NoText("this is no text at all")


def need_each_once(things):
    if not is_each_once(things):
        raise NoText("something stands twice in the text")


def read_figures(text, most):
    if not 1 <= len(text) <= most:
        raise NoText("a number has too few or too many figures")
    # Python's own int takes signs, blanks and underscores too.
    if not all([sign in FIGURES for sign in text]):
        raise NoText("a number has a sign that is no figure")
    if len(text) > 1 and text[0] == "0":
        raise NoText("a number has a nought ahead")
    return int(text)


def read_number(text):
    need_text(text)
    return read_figures(text, NUMBER_FIGURES)


def read_place(text, many):
    place = read_figures(text, PLACE_FIGURES)
    if place >= many:
        raise NoText("there is no such place")
    return place


def read_parted(text, mark, many):
    places = [read_place(word, many) for word in text.split(mark)]
    need_each_once(places)
    return places


def read_places(text, many):
    need_text(text)
    return read_parted(text, ",", many)


def read_pair(text, many):
    places = read_parted(text, "-", many)
    if len(places) != 2:
        raise NoText("a pair has two places")
    return tuple(places)


def read_pairs(text, many):
    need_text(text)
    pairs = [read_pair(word, many) for word in text.split(",")]
    # Sorted, since a pair told the other way round is the same pair.
    need_each_once([tuple(sorted(pair)) for pair in pairs])
    return pairs


def read_loop(text, many):
    loop = read_parted(text, ",", many)
    if len(loop) < 2:
        raise NoText("a loop has two places or more")
    return loop


def read_loops(text, many):
    if not text.startswith("(") or not text.endswith(")"):
        raise NoText("a turning is written in loops")
    found = [read_loop(inner, many) for inner in text[1:-1].split(")(")]
    places = []
    for loop in found:
        places.extend(loop)
    need_each_once(places)
    return found


def read(text, many):
    need_text(text)
    if text == "()":
        return still(many)
    goes = list(still(many))
    for loop in read_loops(text, many):
        for index, place in enumerate(loop):
            goes[loop[index - 1]] = place
    return tuple(goes)
