"""Parts of groups: whether one is a part of another, what two have in common, what fixes places, and sides."""

from turnbase.acts import Lists, Sides
from turnbase.chains import Chain
from turnbase.errors import NoGroup, NotPart
from turnbase.groups import Group
from turnbase.rings import Ring
from turnbase.turnings import back, still, turned

MOST_SHADOW = 60


def is_part(part, group):
    return part.many == group.many and all([group.has(maker) for maker in part.lean_makers()])


def same(one, other):
    return is_part(one, other) and is_part(other, one)


def need_part(part, group):
    if not is_part(part, group):
        raise NotPart("the one group is no part of the other")


def need_same_places(one, other):
    if one.many != other.many:
        raise NoGroup("the groups are of unlike numbers of places")


def of_few_makers(group):
    few = group.lean_makers()
    return group if len(few) == len(group.told()) else Group(group.many, few)


def joined(one, other):
    need_same_places(one, other)
    # At most ninety lean ones of each: never too many for a group, as all makers of both may be.
    return Group(one.many, one.lean_makers() + other.lean_makers())


def sides_ring(group, part, most):
    return Ring(of_few_makers(group), Sides(part), still(group.many), most)


def common(one, other, most=1000):
    need_same_places(one, other)
    # Just what both have keeps the other's own side, and as many sides are met as the first is times larger than that.
    return sides_ring(one, other, most).keepers()


def each_first(places):
    met = {}
    for place in places:
        met[place] = True
    return list(met)


def fixing(group, places):
    firsts = each_first(Lists(group.many).looked(places))
    rest = [place for place in range(group.many) if place not in firsts]
    if len(rest) == 0:
        return Group(group.many, [])
    # Turned about so that the places to be kept come first, the group's part behind them stands in the chain.
    row = tuple(firsts + rest)
    chain = Chain(group.many)
    for number, maker in enumerate(group.lean_makers()):
        chain.take(number, turned(maker, back(row)))
    return Group(group.many, [turned(mover, row) for mover in chain.movers_at(len(firsts))])


def sides(group, part, most=1000):
    need_part(part, group)
    return sides_ring(group, part, most).things()


def shadow(group, part):
    found = sides(group, part, MOST_SHADOW)
    act = Sides(part)
    return [tuple([found.index(act.moved(side, maker)) for side in found]) for maker in group.told()]
