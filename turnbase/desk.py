"""The desk: keeps groups by names, is told lines of words, and answers each with a text."""

from turnbase.acts import Nets, Places, Sets, Turns
from turnbase.errors import NoLine, NoName, NoText
from turnbase.groups import Group
from turnbase.parts import common, fixing, is_part, joined, same, shadow, sides
from turnbase.recipes import shown_recipe
from turnbase.rings import Ring
from turnbase.stairs import about, closed, is_calm, is_tame, mixed
from turnbase.texts import read, read_number, read_pairs, read_place, read_places, shown
from turnbase.turnings import MOST_PLACES

LETTERS = "abcdefghijklmnopqrstuvwxyz"
NAME_LETTERS = 8
MOST_TURNINGS = 20
FORMS = {
    "make": ("NEW", "MANY"),
    "fix": ("NEW", "NAME", "PLACES"),
    "hold": ("NEW", "NAME", "PLACES"),
    "net": ("NEW", "NAME", "PAIRS"),
    "goes": ("NEW", "NAME", "TURNING"),
    "about": ("NEW", "NAME", "TURNING"),
    "join": ("NEW", "NAME", "NAME"),
    "common": ("NEW", "NAME", "NAME"),
    "closed": ("NEW", "NAME", "NAME"),
    "mixed": ("NEW", "NAME", "NAME"),
    "shadow": ("NEW", "NAME", "NAME"),
    "drop": ("NAME",),
    "names": (),
    "told": ("NAME",),
    "size": ("NAME",),
    "base": ("NAME",),
    "ring": ("NAME", "PLACE"),
    "has": ("NAME", "TURNING"),
    "nth": ("NAME", "NUMBER"),
    "place": ("NAME", "TURNING"),
    "word": ("NAME", "TURNING"),
    "way": ("NAME", "PLACE", "PLACE"),
    "least": ("NAME", "TURNING"),
    "same": ("NAME", "NAME"),
    "part": ("NAME", "NAME"),
    "tame": ("NAME",),
    "calm": ("NAME",),
    "sides": ("NAME", "NAME"),
}


def need_name(text):
    if not 1 <= len(text) <= NAME_LETTERS or not all([sign in LETTERS for sign in text]):
        raise NoName("a name has one to eight small letters")


def read_many(text):
    many = read_number(text)
    if not 1 <= many <= MOST_PLACES:
        raise NoText("there are one to sixty places")
    return many


def words_of(line):
    if not isinstance(line, str):
        raise NoLine("this is no text at all")
    return line.split(" ")


def form_of(words):
    if words[0] not in FORMS:
        raise NoLine("no line begins with this word")
    form = FORMS[words[0]]
    if words[0] == "make":
        form = form + ("TURNING",) * min(len(words) - 3, MOST_TURNINGS)
    if len(words) != 1 + len(form):
        raise NoLine("a line that begins with this word has another number of words")
    return form


def read_word(kind, word, many):
    if kind == "MANY":
        return read_many(word)
    if kind == "TURNING":
        return read(word, many)
    if kind == "PLACE":
        return read_place(word, many)
    if kind == "PLACES":
        return read_places(word, many)
    if kind == "PAIRS":
        return read_pairs(word, many)
    return read_number(word)


def shown_row(numbers):
    return ",".join([str(number) for number in numbers])


def yes_or_no(is_so):
    return "yes" if is_so else "no"


def place_ring(group, place):
    return Ring(group, Places(group.many), place)


# What the words behind NEW tell is handed to each of these as a list, and a group comes back.
def lay_make(told):
    return Group(told[0], told[1:])


def lay_fix(told):
    return fixing(told[0], told[1])


def lay_hold(told):
    return Ring(told[0], Sets(told[0].many), told[1]).keepers()


def lay_net(told):
    return Ring(told[0], Nets(told[0].many), told[1]).keepers()


def lay_goes(told):
    return Ring(told[0], Turns(told[0].many), told[1]).keepers()


def lay_about(told):
    return about(told[0], told[1])


def lay_join(told):
    return joined(told[0], told[1])


def lay_common(told):
    return common(told[0], told[1])


def lay_closed(told):
    return closed(told[0], told[1])


def lay_mixed(told):
    return mixed(told[0], told[1])


def lay_shadow(told):
    turnings = shadow(told[0], told[1])
    # Counted anew, since a group without makers has a shadow without turnings.
    return Group(told[0].size() // told[1].size(), turnings)


# What the words behind the first one tell is handed to each of these as a list, and a text comes back.
def tell_told(told):
    return " ".join([shown(maker) for maker in told[0].told()])


def tell_size(told):
    return str(told[0].size())


def tell_base(told):
    return shown_row(told[0].base())


def tell_ring(told):
    return shown_row(place_ring(told[0], told[1]).things())


def tell_has(told):
    return yes_or_no(told[0].has(told[1]))


def tell_nth(told):
    return shown(told[0].nth(told[1]))


def tell_place(told):
    return str(told[0].place_of(told[1]))


def tell_word(told):
    return shown_recipe(told[0].recipe(told[1]))


def tell_way(told):
    return shown_row(place_ring(told[0], told[1]).way(told[2]))


def tell_least(told):
    return shown(told[0].least(told[1]))


def tell_same(told):
    return yes_or_no(same(told[0], told[1]))


def tell_part(told):
    return yes_or_no(is_part(told[0], told[1]))


def tell_tame(told):
    return yes_or_no(is_tame(told[0]))


def tell_calm(told):
    return yes_or_no(is_calm(told[0]))


def tell_sides(told):
    return str(len(sides(told[0], told[1])))


LAYING = {
    "make": lay_make,
    "fix": lay_fix,
    "hold": lay_hold,
    "net": lay_net,
    "goes": lay_goes,
    "about": lay_about,
    "join": lay_join,
    "common": lay_common,
    "closed": lay_closed,
    "mixed": lay_mixed,
    "shadow": lay_shadow,
}
TELLING = {
    "told": tell_told,
    "size": tell_size,
    "base": tell_base,
    "ring": tell_ring,
    "has": tell_has,
    "nth": tell_nth,
    "place": tell_place,
    "word": tell_word,
    "way": tell_way,
    "least": tell_least,
    "same": tell_same,
    "part": tell_part,
    "tame": tell_tame,
    "calm": tell_calm,
    "sides": tell_sides,
}


class Desk:
    def __init__(self):
        self.groups = {}

    def say(self, line):
        words = words_of(line)
        told = self.read_words(form_of(words), words[1:])
        first = words[0]
        if first == "names":
            return " ".join(sorted(self.groups))
        if first == "drop":
            return self.drop(words[1])
        if first in LAYING:
            return self.lay(words[1], LAYING[first](told[1:]))
        return TELLING[first](told)

    def read_words(self, form, words):
        told = []
        many = 0
        for kind, word in zip(form, words):
            thing = self.read_one(kind, word, many)
            # Places behind this word are those of the group that it names, or tells to be made.
            if kind == "NAME":
                many = thing.many
            if kind == "MANY":
                many = thing
            told.append(thing)
        return told

    def read_one(self, kind, word, many):
        if kind == "NEW":
            need_name(word)
            return word
        if kind == "NAME":
            return self.group_by(word)
        return read_word(kind, word, many)

    def group_by(self, name):
        # What is no name is refused here too, since no group was laid by it.
        if name not in self.groups:
            raise NoName("no group stands by this name")
        return self.groups[name]

    def lay(self, name, group):
        self.groups[name] = group
        return str(group.size())

    def drop(self, name):
        self.groups.pop(name)
        return "ok"
