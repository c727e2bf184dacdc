"""Turnings of places: tuples in which the place k goes to the place t[k]."""

MOST_PLACES = 60


def is_whole(thing):
    return isinstance(thing, int) and not isinstance(thing, bool)


def is_turning(thing):
    if not isinstance(thing, tuple) or not 1 <= len(thing) <= MOST_PLACES:
        return False
    # Asked ahead of sorting, since things of unlike kinds can't be sorted.
    if not all([is_whole(place) for place in thing]):
        return False
    return sorted(thing) == list(range(len(thing)))


def is_each_once(things):
    return len(set(things)) == len(things)


def is_place(thing, many):
    return is_whole(thing) and 0 <= thing < many


def is_turning_of(thing, many):
    return is_turning(thing) and len(thing) == many


def still(many):
    return tuple(range(many))


def behind(one, other):
    return tuple([other[place] for place in one])


def back(one):
    goes = list(one)
    for place, to in enumerate(one):
        goes[to] = place
    return tuple(goes)


def power(one, times):
    goes = list(one)
    # Loop by loop the cost does not hang on times, which may have hundreds of figures.
    for loop in loops(one):
        for index, place in enumerate(loop):
            goes[place] = loop[(index + times) % len(loop)]
    return tuple(goes)


def turned(one, by):
    goes = list(one)
    for place, to in enumerate(one):
        goes[by[place]] = by[to]
    return tuple(goes)


def order(one):
    times = 1
    for loop in loops(one):
        # Only whole multiples of what the loops so far need keep them still.
        step = times
        while times % len(loop) != 0:
            times += step
    return times


def loop_from(one, first):
    loop = [first]
    place = one[first]
    while place != first:
        loop.append(place)
        place = one[place]
    return loop


def loops(one):
    found = []
    met = {}
    for first in range(len(one)):
        if first in met:
            continue
        loop = loop_from(one, first)
        for place in loop:
            met[place] = True
        if len(loop) > 1:
            found.append(loop)
    return found


def shape(one):
    long_ones = [len(loop) for loop in loops(one)]
    staying = len(one) - sum(long_ones)
    return sorted(long_ones, reverse=True) + [1] * staying


def is_even(one):
    return (len(one) - len(shape(one))) % 2 == 0
