"""Partings of places: the rings under some makers, and the finest parting that they keep."""


def head_of(heads, place):
    here = place
    while heads[here] != here:
        here = heads[here]
    return here


def parts_by_heads(heads):
    parts = {}
    for place in range(len(heads)):
        parts.setdefault(head_of(heads, place), []).append(place)
    # Walking the places upwards, each part was begun by its least place.
    return list(parts.values())


def rings_of(many, makers):
    heads = list(range(many))
    for maker in makers:
        for place in range(many):
            heads[head_of(heads, place)] = head_of(heads, maker[place])
    return parts_by_heads(heads)


def finest(many, makers, pairs):
    heads = list(range(many))
    waiting = list(pairs)
    while len(waiting) > 0:
        pair = waiting.pop()
        head = head_of(heads, pair[0])
        other = head_of(heads, pair[1])
        if head != other:
            heads[head] = other
            # What was one part already has been taken on by every maker, so a pair counts only where it joins two.
            waiting.extend([(maker[pair[0]], maker[pair[1]]) for maker in makers])
    return parts_by_heads(heads)
