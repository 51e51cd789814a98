"""A looker that judges rows, courses and bars by the words of the document, apart from the package.

It reckons with Python's own fractions, on mills as the lists `stuffs` and `recipes` that they are made of.
"""

from fractions import Fraction

GONE_THROUGH = 200


def number(amount):
    return Fraction(amount[0], amount[1])


def pair(value):
    value = Fraction(value)
    return (value.numerator, value.denominator)


class Looker:
    def __init__(self, stuffs, recipes):
        self.names = [name for name, _ in stuffs]
        self.rooms = [room for _, room in stuffs]
        self.recipes = {}
        for name, takes, gives in recipes:
            self.recipes[name] = (dict(takes), dict(gives))
        self.order = [name for name, _, _ in recipes]

    # rows ([11], [12])

    def go(self, have, row, watch=None):
        """Walk a row from holdings (Fractions); return where it leads, None if it can't be done."""
        held = list(have)
        if watch is not None:
            watch(held)
        for times, steps in row:
            if times <= GONE_THROUGH:
                for _ in range(times):
                    held = self.turn(held, steps, watch)
                    if held is None:
                        return None
                continue
            before = held
            held = self.turn(held, steps, watch)
            if held is None:
                return None
            per_turn = [b - a for a, b in zip(before, held)]
            last = [a + (times - 1) * d for a, d in zip(before, per_turn)]
            held = self.turn(last, steps, watch)
            if held is None:
                return None
        return held

    def turn(self, held, steps, watch):
        for name, amount in steps:
            takes, gives = self.recipes[name]
            share = number(amount)
            if share <= 0:
                return None
            held = [h - share * takes.get(stuff, 0) for stuff, h in zip(self.names, held)]
            if any(h < 0 for h in held):
                return None
            if watch is not None:
                watch(held)
            held = [h + share * gives.get(stuff, 0) for stuff, h in zip(self.names, held)]
            if any(room is not None and h > room for h, room in zip(held, self.rooms)):
                return None
            if watch is not None:
                watch(held)
        return held

    def extremes(self, have, row):
        least, most = list(have), list(have)

        def watch(held):
            for place, h in enumerate(held):
                least[place] = min(least[place], h)
                most[place] = max(most[place], h)
        end = self.go(have, row, watch)
        return end, least, most

    def sums(self, row):
        done = {name: Fraction(0) for name in self.order}
        for times, steps in row:
            for name, amount in steps:
                done[name] += times * number(amount)
        return [done[name] for name in self.order]

    # courses ([20], [21])

    def lies_in(self, held, box):
        for h, (low, high) in zip(held, box):
            if h < number(low) or (high is not None and h > number(high)):
                return False
        return all(room is None or h <= room for h, room in zip(held, self.rooms))

    def is_course(self, chain, value):
        have, rows = value
        held = [number(amount) for amount in have]
        if len(rows) != len(chain) - 1 or not self.lies_in(held, chain[0]):
            return False
        for row, box in zip(rows, chain[1:]):
            held = self.go(held, row)
            if held is None or not self.lies_in(held, box):
                return False
        return True

    def has_form(self, row):
        """Whether a row has at most three blocks, in none of which a recipe stands twice ([21])."""
        if len(row) > 3:
            return False
        return all(len(set(name for name, _ in steps)) == len(steps) for _, steps in row)

    # bars ([22])

    def highs(self, box):
        found = []
        for (_, high), room in zip(box, self.rooms):
            if high is not None:
                found.append(number(high))
            else:
                found.append(None if room is None else Fraction(room))
        return found

    def is_bars(self, chain, stages):
        if not stages or stages[-1][0] != "worths" or any(stage[0] == "worths" for stage in stages[:-1]):
            return False
        return self.walk(chain, stages)[0] is True

    def possible_behind(self, chain, stages):
        """The recipes possible in the first leg behind stages, none of the last kind; None if some do not hold."""
        if any(stage[0] == "worths" for stage in stages):
            return None
        told, possible = self.walk(chain, stages)
        return None if told is False else possible[0]

    def walk(self, chain, stages):
        """Whether the last stage holds (None if it is not of the last kind), and the recipes possible in each leg."""
        legs = len(chain) - 1
        possible = [set(self.order) for _ in range(legs)]
        lows = [[number(low) for low, _ in box] for box in chain]
        highs = [self.highs(box) for box in chain]
        stuffs = range(len(self.names))
        empty = [set(s for s in stuffs if highs[b][s] == 0) for b in range(len(chain))]
        full = [set(s for s in stuffs if self.rooms[s] is not None and lows[b][s] == self.rooms[s])
                for b in range(len(chain))]
        for kind, said in stages:
            if kind == "begin":
                possible[said] = self.begun(possible[said], empty[said], full[said], False)
                continue
            if kind == "end":
                possible[said] = self.begun(possible[said], empty[said + 1], full[said + 1], True)
                continue
            worths = [[number(worth) for worth in leg] for leg in said]
            gains = [{name: self.gain(leg, name) for name in some} for leg, some in zip(worths, possible)]
            if any(gain > 0 for leg in gains for gain in leg.values()):
                return False, possible
            steps = self.differences(worths, len(chain))
            floor = Fraction(0)
            for b in range(len(chain)):
                for s in stuffs:
                    if steps[b][s] < 0 and highs[b][s] is None:
                        return False, possible
                    floor += steps[b][s] * (lows[b][s] if steps[b][s] >= 0 else highs[b][s])
            if kind == "worths":
                return floor > 0, possible
            if kind != "tight" or floor != 0:
                return False, possible
            for leg in range(legs):
                possible[leg] = set(name for name in possible[leg] if gains[leg][name] == 0)
            for b in range(len(chain)):
                for s in stuffs:
                    if steps[b][s] > 0 and lows[b][s] == 0:
                        empty[b].add(s)
                    if steps[b][s] < 0 and self.rooms[s] is not None and highs[b][s] == self.rooms[s]:
                        full[b].add(s)
        return None, possible

    def gain(self, worths, name):
        takes, gives = self.recipes[name]
        return sum(worth * (gives.get(stuff, 0) - takes.get(stuff, 0)) for stuff, worth in zip(self.names, worths))

    def differences(self, worths, boxes):
        nothing = [Fraction(0)] * len(self.names)
        padded = [nothing] + worths + [nothing]
        return [[padded[b][s] - padded[b + 1][s] for s in range(len(self.names))] for b in range(boxes)]

    def begun(self, names, empty, full, turned):
        had = set(range(len(self.names))) - empty
        space = set(s for s, room in enumerate(self.rooms) if room is None or s not in full)
        begun, again = set(), True
        while again:
            again = False
            for name in sorted(names - begun):
                takes, gives = self.recipes[name]
                if turned:
                    takes, gives = gives, takes
                more = [s for s, stuff in enumerate(self.names) if gives.get(stuff, 0) > takes.get(stuff, 0)]
                if all(self.names.index(stuff) in had for stuff in takes) and all(s in space for s in more):
                    begun.add(name)
                    again = True
                    had |= set(self.names.index(stuff) for stuff in gives)
                    space |= set(s for s, stuff in enumerate(self.names) if takes.get(stuff, 0) > gives.get(stuff, 0))
        return begun
