"""Stairs: groups turned about, closed and mixed groups of a part, and what comes of mixing again and again."""

from turnbase.errors import NoTurning
from turnbase.groups import Group, Growth
from turnbase.parts import need_part
from turnbase.turnings import back, behind, is_turning_of, turned


def about(group, by):
    if not is_turning_of(by, group.many):
        raise NoTurning("this is no turning of the group's places")
    return Group(group.many, [turned(maker, by) for maker in group.told()])


def is_turned_within(part, by):
    # Turned about, the part is as large as before: so it stays the same where its makers stay within it.
    return all([part.has(turned(maker, by)) for maker in part.lean_makers()])


def is_kept(group, part):
    need_part(part, group)
    return all([is_turned_within(part, maker) for maker in group.lean_makers()])


def least_kept(group, turnings):
    growth = Growth(group.many)
    waiting = list(turnings)
    while len(waiting) > 0 and growth.size() < group.size():
        turning = waiting.pop()
        if growth.take(turning):
            # What is kept by each maker of the group is kept by all its turnings.
            waiting.extend([turned(turning, maker) for maker in group.lean_makers()])
    return growth.whole()


def closed(group, part):
    need_part(part, group)
    return least_kept(group, part.lean_makers())


def mix(one, other):
    return behind(behind(back(one), back(other)), behind(one, other))


def mixed(group, part):
    need_part(part, group)
    mixes = []
    for maker in group.lean_makers():
        mixes.extend([mix(maker, other) for other in part.lean_makers()])
    return least_kept(group, mixes)


def going_down(group, step):
    found = [group]
    lower = step(group)
    # Each is a part of the one before, and so the same just where it is as large.
    while lower.size() < found[-1].size():
        found.append(lower)
        lower = step(lower)
    return found


def stairs(group):
    return going_down(group, lambda last: mixed(last, last))


def slopes(group):
    return going_down(group, lambda last: mixed(group, last))


def is_tame(group):
    return stairs(group)[-1].size() == 1


def is_calm(group):
    return slopes(group)[-1].size() == 1
