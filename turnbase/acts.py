"""Acts: which things there are, and to which thing a turning moves one."""

from turnbase.errors import NoThing
from turnbase.turnings import behind, is_each_once, is_place, is_turning_of, turned

MOST_IN_ROW = 60
MOST_PAIRS = 200


def need_row(thing, most):
    if not isinstance(thing, (list, tuple)) or len(thing) > most:
        raise NoThing("this is no list or tuple, or too long a one")


def need_place(thing, many):
    if not is_place(thing, many):
        raise NoThing("this is no place")


def need_turning(thing, many):
    if not is_turning_of(thing, many):
        raise NoThing("this is no turning of these places")


def need_each_once(things):
    if not is_each_once(things):
        raise NoThing("something is there twice")


def row_of_places(thing, most, many):
    need_row(thing, most)
    for place in thing:
        need_place(place, many)
    return tuple(thing)


def rising(things):
    return tuple(sorted(things))


def rising_pair(thing, many):
    pair = row_of_places(thing, 2, many)
    if len(pair) != 2 or pair[0] == pair[1]:
        raise NoThing("a pair has two unlike places")
    return rising(pair)


def places_moved(places, t):
    return tuple([t[place] for place in places])


class Act:
    def __init__(self, many):
        self.many = many

    def looked(self, thing):
        raise NoThing("there are no things here")

    def moved(self, thing, t):
        return thing

    def kept(self, thing, t):
        own = self.looked(thing)
        return self.moved(own, t) == own


class Places(Act):
    def looked(self, thing):
        need_place(thing, self.many)
        return thing

    def moved(self, thing, t):
        return t[thing]


class Lists(Act):
    def looked(self, thing):
        return row_of_places(thing, MOST_IN_ROW, self.many)

    def moved(self, thing, t):
        return places_moved(thing, t)


class Sets(Act):
    def looked(self, thing):
        places = row_of_places(thing, MOST_IN_ROW, self.many)
        need_each_once(places)
        return rising(places)

    def moved(self, thing, t):
        return rising(places_moved(thing, t))


class Nets(Act):
    def looked(self, thing):
        need_row(thing, MOST_PAIRS)
        pairs = [rising_pair(pair, self.many) for pair in thing]
        need_each_once(pairs)
        return rising(pairs)

    def moved(self, thing, t):
        return rising([rising(places_moved(pair, t)) for pair in thing])


class Turns(Act):
    def looked(self, thing):
        need_turning(thing, self.many)
        return thing

    def moved(self, thing, t):
        return turned(thing, t)


class Sides(Act):
    def __init__(self, part):
        Act.__init__(self, part.many)
        self.part = part

    def looked(self, thing):
        need_turning(thing, self.many)
        return self.part.least(thing)

    def moved(self, thing, t):
        return self.part.least(behind(thing, t))
