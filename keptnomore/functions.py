"""Functions of goings on: each going on behind a past has a value, and all other rows are refused.

A function behind a past with open nodes is a shape, whose letters are children that come, with labels: the functions
behind the close of the deepest open node. Functions have numbers. 0 refuses all; `value + 1` stands for a value that
is certain, since no node is open; the others, from `floor` on, have shapes. Two that say the same have the same
number, and a function has a greater number than its labels.
"""

from heapq import heappop, heappush

from keptnomore.shapes import Frame, numbered

CLOSE = -1


class Functions:
    """All functions that were come upon."""

    def __init__(self, machine, shapes, floor):
        self.machine = machine
        self.shapes = shapes
        self.floor = floor
        self.shape = [None for _ in range(floor)]
        self.labels = [() for _ in range(floor)]
        # The values that a function can still have, as bits.
        self.spread = [0] + [1 << worth for worth in range(floor - 1)]
        self._known = {}
        self._moved = {}
        self._composed = {}
        self._frames = {}
        self._under = {}
        self._ways = {}
        self._fewest = {worth + 1: {worth: (0, 0)} for worth in range(floor - 1)}
        self._fewest[0] = {}

    def known(self, shape, labels):
        """The number of the function with this shape and these labels."""
        if labels == (0,):
            return 0
        key = (shape, labels)
        if key not in self._known:
            self._known[key] = len(self.shape)
            spread = 0
            for label in labels:
                spread = spread | self.spread[label]
            self.shape.append(shape)
            self.labels.append(labels)
            self.spread.append(spread)
        return self._known[key]

    def merged(self, shape, labels):
        """The function with this shape, whose labels get these, some of which may be the same."""
        found, unlike = self.shapes.merged(shape, labels)
        return self.known(found, unlike)

    def moved(self, function, action):
        """The function behind one more child."""
        if function < self.floor:
            return 0
        key = (function, action)
        if key not in self._moved:
            place = self.shapes.rows[self.shape[function]][0][action]
            shape, order = self.shapes.turned(self.shape[function], place)
            labels = self.labels[function]
            self._moved[key] = self.known(shape, tuple([labels[at] for at in order]))
        return self._moved[key]

    def left(self, function):
        """The function behind a close."""
        if function < self.floor:
            return 0
        return self.labels[function][self.shapes.outs[self.shape[function]][0]]

    def below_first(self, function, done):
        """The function and all that it is put together of, without those that are done, labels ahead."""
        seen = set()
        waiting = [function]
        while waiting:
            at = waiting.pop()
            if at >= self.floor and at not in seen and at not in done:
                seen.add(at)
                waiting.extend(self.labels[at])
        return sorted(seen)

    def composed(self, function, worths):
        """The function with other values: `worths` has what each value becomes."""
        done = self._composed.setdefault(worths, {at + 1: worth + 1 for at, worth in enumerate(worths)})
        if function == 0:
            return 0
        if function not in done:
            fresh = self.below_first(function, done)
            for at in fresh:
                labels = [done[label] if label else 0 for label in self.labels[at]]
                done[at] = self.merged(self.shape[at], labels)
        return done[function]

    def pushed(self, sort, labels, start):
        """The function in a new node of a sort; it ends in the labels, one for each exit."""
        pattern, unlike = numbered(labels)
        key = (sort, pattern)
        if key not in self._frames:
            states = [pattern[place] for place in self.machine.exit_at[sort]]
            self._frames[key] = Frame(self.shapes, self.machine.wide_rows, states)
        shape, order = self._frames[key].labelled(start, unlike)
        return self.known(shape, order)

    def under(self, function, sort):
        """The function behind the opening of a node of a sort."""
        key = (function, sort)
        if key not in self._under:
            action_of = self.machine.action_of
            labels = [0 if letter is None else self.moved(function, action_of[letter])
                      for letter, _ in self.machine.exits[sort]]
            self._under[key] = self.pushed(sort, labels, 0)
        return self._under[key]

    def ways(self, shape):
        """For each label of a shape the fewest events, and the letters, that lead to a state with it."""
        if shape not in self._ways:
            found = [None for _ in range(max(self.shapes.outs[shape]) + 1)]
            seen = set()
            queue = [(0, 0, ())]
            while queue:
                cost, state, word = heappop(queue)
                if state in seen:
                    continue
                seen.add(state)
                out = self.shapes.outs[shape][state]
                if found[out] is None:
                    found[out] = (cost, word)
                for action, place in enumerate(self.shapes.rows[shape][state]):
                    letter = self.machine.cheapest[action]
                    if place not in seen:
                        heappush(queue, (cost + 2 * self.machine.costs[letter], place, word + (letter,)))
            self._ways[shape] = found
        return self._ways[shape]

    def fewest(self, function):
        """For each value the fewest events of a going on that has it, and the number of the label on its way."""
        if function not in self._fewest:
            fresh = self.below_first(function, self._fewest)
            for at in fresh:
                found = {}
                for place, label in enumerate(self.labels[at]):
                    ahead = self.ways(self.shape[at])[place][0] + 1
                    further = self._fewest[label]
                    for worth in further:
                        cost = ahead + further[worth][0]
                        if worth not in found or cost < found[worth][0]:
                            found[worth] = (cost, place)
                self._fewest[at] = found
        return self._fewest[function]

    def going_on(self, function, worth):
        """The letters and closes of a going on with the value, with as few events as possible."""
        plan = []
        while function >= self.floor:
            place = self.fewest(function)[worth][1]
            plan.extend(list(self.ways(self.shape[function])[place][1]))
            plan.append(CLOSE)
            function = self.labels[function][place]
        return plan
