"""Groups of turnings: told by makers, and asked for their size, their turnings, and how these are made."""

from turnbase.chains import STILL_LINE, Chain
from turnbase.errors import NoGroup, NoNumber, NoTurning, NotIn, TooMany
from turnbase.recipes import trimmed
from turnbase.turnings import MOST_PLACES, behind, is_turning_of, is_whole, still

MOST_MAKERS = 200
MOST_LISTED = 1000


def need_group(many, makers):
    if not is_whole(many) or not 1 <= many <= MOST_PLACES:
        raise NoGroup("there are one to sixty places")
    if not isinstance(makers, list) or len(makers) > MOST_MAKERS:
        raise NoGroup("the makers are a list of at most two hundred")
    if not all([is_turning_of(maker, many) for maker in makers]):
        raise NoGroup("a maker is no turning of these places")


def one_behind_another(lines, parts):
    if len(parts) == 1:
        return lines[:parts[0] + 1]
    longer = list(lines)
    here = parts[0]
    for part in parts[1:]:
        longer.append(("behind", here, part))
        here = len(longer) - 1
    return longer


class Group:
    def __init__(self, many, makers):
        need_group(many, makers)
        self.many = many
        self.makers = tuple(makers)
        self.chain = Chain(many)
        for number, maker in enumerate(self.makers):
            self.chain.take(number, maker)

    def told(self):
        return list(self.makers)

    def lean_makers(self):
        return self.chain.movers_at(0)

    def size(self):
        return self.chain.size()

    def base(self):
        return [step.place for step in self.chain.base_steps()]

    def ring_at(self, place):
        return sorted(self.chain.steps[place].line_to)

    def lift(self, place, to):
        step = self.chain.steps[place]
        if to not in step.line_to:
            raise NotIn("no turning of the part there takes the one place to the other")
        return self.chain.least_of(self.chain.turning_to(step, to), place + 1)

    def ground(self):
        return [(place, [self.lift(place, to) for to in self.ring_at(place)]) for place in self.base()]

    def has(self, thing):
        return is_turning_of(thing, self.many) and self.chain.holds(thing, 0)

    def need_in(self, thing):
        if not self.has(thing):
            raise NotIn("this is no turning of the group")

    def least(self, thing):
        if not is_turning_of(thing, self.many):
            raise NoTurning("this is no turning of the group's places")
        return self.chain.least_of(thing, 0)

    def nth(self, k):
        size = self.size()
        if not is_whole(k) or not 0 <= k < size:
            raise NoNumber("no turning of the group has this number")
        here = still(self.many)
        for step in self.chain.base_steps():
            # So many turnings of the group there are for each place to which the step's place can go.
            size = size // len(step.line_to)
            goals = sorted([here[place] for place in step.line_to])
            goal = goals[k // size % len(goals)]
            here = behind(self.chain.turning_to(step, here.index(goal)), here)
        return here

    def place_of(self, thing):
        self.need_in(thing)
        number = 0
        here = still(self.many)
        for step in self.chain.base_steps():
            goal = thing[step.place]
            lower = [place for place in step.line_to if here[place] < goal]
            number = number * len(step.line_to) + len(lower)
            here = behind(self.chain.turning_to(step, here.index(goal)), here)
        return number

    def listed(self):
        if self.size() > MOST_LISTED:
            raise TooMany("the group has more than a thousand turnings")
        return [self.nth(k) for k in range(self.size())]

    def recipe(self, thing):
        self.need_in(thing)
        parts = list(reversed(self.chain.sifted(thing, 0))) or [STILL_LINE]
        return trimmed(one_behind_another(self.chain.book.lines, parts))

    def paper(self):
        steps = [(step.place, sorted(step.line_to.items())) for step in self.chain.base_steps()]
        return (list(self.chain.book.lines), steps)


# A group in the making, for turnings that are met one by one: its chain is handed on, so that it is not made twice.
class Growth:
    def __init__(self, many):
        self.many = many
        self.found = []
        self.chain = Chain(many)

    def take(self, turning):
        is_new = self.chain.take(len(self.found), turning)
        if is_new:
            self.found.append(turning)
        return is_new

    def size(self):
        return self.chain.size()

    def whole(self):
        group = Group(self.many, [])
        group.makers = tuple(self.found)
        group.chain = self.chain
        return group


def lean(many, makers):
    growth = Growth(many)
    for maker in makers:
        growth.take(maker)
    return growth.found
