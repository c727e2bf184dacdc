"""Rings: all things to which a group moves a thing, with a shortest way to each, and what keeps the thing."""

from turnbase.errors import NoThing, NotIn, TooMany
from turnbase.groups import Growth
from turnbase.turnings import back, behind, still


class Ring:
    def __init__(self, group, act, thing, most=1000):
        if act.many != group.many:
            raise NoThing("the act is of another number of places than the group")
        self.group = group
        self.act = act
        self.own = act.looked(thing)
        self.ways = {}
        self.bringers = {}
        self.fill(most)

    def fill(self, most):
        edge = [self.own]
        self.put_thing(self.own, (), still(self.group.many), most)
        while len(edge) > 0:
            edge = self.next_edge(edge, most)

    def next_edge(self, edge, most):
        # The edge stands in the order of its ways: so the first way that comes to a thing is the least shortest one.
        found = []
        for thing in edge:
            for number, maker in enumerate(self.group.told()):
                there = self.act.moved(thing, maker)
                if there not in self.ways:
                    self.put_thing(there, self.ways[thing] + (number,), behind(self.bringers[thing], maker), most)
                    found.append(there)
        return found

    def put_thing(self, thing, way, turning, most):
        if len(self.ways) >= most:
            raise TooMany("the ring has more things than it may have")
        self.ways[thing] = way
        self.bringers[thing] = turning

    def things(self):
        return sorted(self.ways)

    def in_ring(self, thing):
        own = self.act.looked(thing)
        if own not in self.ways:
            raise NotIn("this thing is not in the ring")
        return own

    def far(self, thing):
        return len(self.ways[self.in_ring(thing)])

    def way(self, thing):
        return list(self.ways[self.in_ring(thing)])

    def bringer(self, thing):
        return self.bringers[self.in_ring(thing)]

    def keepers(self):
        growth = Growth(self.group.many)
        size = self.group.size() // len(self.ways)
        for thing in self.ways:
            if growth.size() < size:
                self.put_keepers(growth, thing)
        return growth.whole()

    def put_keepers(self, growth, thing):
        # Schreier's lemma: such turnings, of all things and makers, make all that keeps the ring's own thing.
        for maker in self.group.lean_makers():
            there = self.act.moved(thing, maker)
            growth.take(behind(behind(self.bringers[thing], maker), back(self.bringers[there])))
