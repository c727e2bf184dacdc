"""Chains: for each place the ring of the part there, with turnings to its places and the lines that make them."""

from turnbase.turnings import back, behind, still

STILL_LINE = 0


class Book:
    def __init__(self, many):
        self.lines = [("still",)]
        self.made = [still(many)]
        self.back_lines = {STILL_LINE: STILL_LINE}

    def put(self, line, turning):
        self.lines.append(line)
        self.made.append(turning)
        return len(self.lines) - 1

    def put_behind(self, one, other):
        # The still line adds nothing, and without such lines recipes stay short.
        if one == STILL_LINE:
            return other
        if other == STILL_LINE:
            return one
        return self.put(("behind", one, other), behind(self.made[one], self.made[other]))

    def put_back(self, one):
        if one not in self.back_lines:
            self.back_lines[one] = self.put(("back", one), back(self.made[one]))
        return self.back_lines[one]


class Step:
    def __init__(self, place, many):
        self.place = place
        self.movers = []
        self.line_to = {place: STILL_LINE}
        self.back_from = {place: still(many)}
        self.waiting = []
        self.looked_at = 0

    def put_mover(self, mover):
        self.movers.append(mover)
        self.waiting.extend([(place, mover) for place in self.line_to])

    def put_place(self, place, line, turning):
        self.line_to[place] = line
        self.back_from[place] = back(turning)
        self.waiting.extend([(place, mover) for mover in self.movers])

    def next_pair(self):
        # First come, first looked at: so each place of the ring is reached by few movers.
        if self.looked_at == len(self.waiting):
            return None
        self.looked_at += 1
        return self.waiting[self.looked_at - 1]


class Chain:
    def __init__(self, many):
        self.book = Book(many)
        self.steps = [Step(place, many) for place in range(many)]

    def take(self, number, maker):
        if self.holds(maker, 0):
            return False
        self.steps[0].put_mover(self.book.put(("told", number), maker))
        self.settle()
        return True

    def settle(self):
        # A step is worked on only while all steps behind it are settled, so that what they hold can be asked.
        level = 0
        while level >= 0:
            pair = self.steps[level].next_pair()
            if pair is None:
                level -= 1
            elif self.found_mover(level, pair[0], pair[1]):
                level += 1

    def found_mover(self, level, place, mover):
        step = self.steps[level]
        line = step.line_to[place]
        made = behind(self.book.made[line], self.book.made[mover])
        to = made[level]
        if to not in step.line_to:
            step.put_place(to, self.book.put_behind(line, mover), made)
            return False
        # Schreier's lemma: such turnings, of all places of the ring and all movers, make the whole part behind.
        if self.holds(behind(made, step.back_from[to]), level + 1):
            return False
        ahead = self.book.put_behind(line, mover)
        self.steps[level + 1].put_mover(self.book.put_behind(ahead, self.book.put_back(step.line_to[to])))
        return True

    def sifted(self, turning, level):
        # What each step takes off stood at the end of what was left: so the lines are told from the last to the first.
        lines = []
        here = turning
        for step in self.steps[level:]:
            to = here[step.place]
            if to not in step.line_to:
                return None
            if to != step.place:
                lines.append(step.line_to[to])
                here = behind(here, step.back_from[to])
        return lines

    def holds(self, turning, level):
        return self.sifted(turning, level) is not None

    def turning_to(self, step, to):
        return self.book.made[step.line_to[to]]

    def base_steps(self):
        return [step for step in self.steps if len(step.line_to) > 1]

    def size(self):
        product = 1
        for step in self.steps:
            product *= len(step.line_to)
        return product

    def movers_at(self, level):
        return [self.book.made[line] for line in self.steps[level].movers]

    def least_of(self, turning, level):
        here = turning
        for step in self.steps[level:]:
            # Once it is settled where a place goes, the steps behind can't change it: so the best there is best of all.
            best = min([here[place] for place in step.line_to])
            if here[step.place] != best:
                here = behind(self.turning_to(step, here.index(best)), here)
        return here
