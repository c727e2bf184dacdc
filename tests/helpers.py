"""What several tests need: turnings and groups to ask of, and things of any kind."""

from turnbase.turnings import behind, still

GREAT = 10 ** 299 + 7


class Ill:
    """Refuses to be compared, looked up or shown."""

    def __eq__(self, other):
        raise RuntimeError

    def __lt__(self, other):
        raise RuntimeError

    def __hash__(self):
        raise RuntimeError

    def __repr__(self):
        raise RuntimeError


# None of these is a turning, a group's number, a place or a row of places.
ANYTHING = (
    None, True, False, 0.0, 1.0, float("nan"), 1j, "", "0", "()", "(0,1)", b"", b"\x00", {}, {0: 0}, {0, 1}, frozenset(), range(3), len,
    int, Ill(), object(), iter([0]), GREAT, -GREAT, [None], (None,), [[]], ((),), [Ill()], (Ill(),), [True], (False,), [0.0], ("0",),
    [0, Ill()], (0, None), [-1], (-1, 0), (GREAT,), [0, -GREAT],
)


def mixed_up(many, seed):
    """A turning that looks like chance but is the same in every run."""
    places = list(range(many))
    for last in range(many - 1, 0, -1):
        seed = (seed * 1103515245 + 12345) % 2 ** 31
        other = (seed >> 8) % (last + 1)
        places[last], places[other] = places[other], places[last]
    return tuple(places)


def loop(many, *places):
    """The turning that takes each of these places to the next one, and the last to the first."""
    goes = list(range(many))
    for place, to in zip(places, places[1:] + places[:1]):
        goes[place] = to
    return tuple(goes)


def by_blocks(one, length):
    """The turning that moves whole blocks of so many places as the one moves places."""
    return tuple(one[place // length] * length + place % length for place in range(len(one) * length))


def all_made(many, makers):
    """All turnings of the group of the makers, rising: found one by one, so for small groups alone."""
    found = {still(many): True}
    waiting = [still(many)]
    while waiting:
        here = waiting.pop()
        for maker in makers:
            made = behind(here, maker)
            if made not in found:
                found[made] = True
                waiting.append(made)
    return sorted(found)
