"""What parts houses, and how many there are that nothing parts."""

from heapq import heappop, heappush

from keptnomore.bases import NONE, REST
from keptnomore.functions import CLOSE
from keptnomore.plans import plan_along


def reached(bases, base):
    """The base and all behind more children, as far as something is allowed there, in the order of coming upon them."""
    found = {base: True}
    waiting = [base]
    while waiting:
        at = waiting.pop()
        for letter in bases.machine.cheapest:
            place = bases.moved(at, letter)
            if place != NONE and place not in found:
                found[place] = True
                waiting.append(place)
    return list(found)


def width(space, depth):
    """How many houses with so many open nodes there are, no two of which are alike for nodes to come."""
    bases = space.bases()
    layer = [REST]
    for _ in range(depth):
        found = {}
        for base in layer:
            for sort in range(len(bases.machine.names)):
                if bases.is_let(base, sort):
                    for place in reached(bases, bases.pushed(base, sort)):
                        found[place] = True
        layer = list(found)
    return len(layer)


def needed_layers(bases, depth, goal):
    """For each number of open nodes the bases that closes lead to, if children come or not ahead of them."""
    layers = [[goal]]
    for _ in range(depth):
        layers.append(list({behind: True for base in layers[-1] for behind, _ in bases.labels[base]
                            if behind != NONE}))
    return layers[::-1]


def can_lead(bases, base, needed):
    """Whether behind one more child each of the needed bases can be there."""
    places = [bases.moved(base, letter) for letter in bases.machine.cheapest]
    return base == REST or all([place in places for place in needed])


def shortest_plan(bases, depth, goal):
    """The plan of a past with as few events as possible that leads to a base; it has so many open nodes."""
    layers = needed_layers(bases, depth, goal)
    done = {}
    # The numbers of bases hang on what was asked before, so they stand last and settle nothing.
    queue = [(0, 0, (), REST)]
    while queue:
        cost, level, plan, base = heappop(queue)
        if base == goal:
            return [bases.machine.names[step] if is_sort else step for is_sort, step in plan]
        if base in done:
            continue
        done[base] = True
        if level > 0:
            for letter in bases.machine.cheapest:
                place = bases.moved(base, letter)
                if place != NONE and place not in done:
                    heappush(queue, (cost + 2 * bases.machine.costs[letter], level, plan + ((0, letter),), place))
        # Without this a search in a great space would go through very many bases that lead elsewhere.
        if level < depth and can_lead(bases, base, layers[level]):
            for sort in range(len(bases.machine.names)):
                if bases.is_let(base, sort):
                    heappush(queue, (cost + 1, level + 1, plan + ((1, sort),), bases.pushed(base, sort)))
    return []


def parting_plan(bases, one, other):
    """The plan of a row with which two states with as many open nodes part, or None if nothing parts them."""
    search = Search(bases)
    if one[1] != other[1]:
        return search.plan(True, one[1], other[1])
    told = [{(number, mark): function for number, function, marks in state[2] for mark in marks}
            for state in (one, other)]
    for pair in sorted(list(told[0]) + list(told[1])):
        functions = [table[pair] for table in told if pair in table]
        if len(functions) == 1:
            # Only one of the houses can tell this node.
            return bases.functions.going_on(functions[0], 1)
        if functions[0] != functions[1]:
            return search.plan(False, functions[0], functions[1])
    return None


class Search:
    """Looks for a row with which two bases, or two functions, part; pairs are (is it of bases, one, other)."""

    def __init__(self, bases):
        self._bases = bases
        self._functions = bases.functions

    def plan(self, is_base, one, other):
        """The plan of a row behind which the two have refused or told unlike things; they are unlike."""
        ways = {(is_base, one, other): None}
        waiting = [(is_base, one, other)]
        done = 0
        while not self._is_end(waiting[done]):
            pair = waiting[done]
            done += 1
            for step, place in self._next(pair):
                if place[1] != place[2] and place not in ways:
                    ways[place] = (pair, step)
                    waiting.append(place)
        return self._plan_to(waiting[done], ways)

    def _next(self, pair):
        """The steps from a pair; a step is a letter, CLOSE, or a question's number and a letter."""
        is_base, one, other = pair
        table = self._bases if is_base else self._functions
        found = [(CLOSE, (is_base, table.left(one), table.left(other)))]
        if not is_base:
            for action, letter in enumerate(self._bases.machine.cheapest):
                found.append((letter, (False, table.moved(one, action), table.moved(other, action))))
            return found
        for letter in self._bases.machine.cheapest:
            found.append((letter, (True, table.moved(one, letter), table.moved(other, letter))))
        for number, letter in self._bases.marked:
            seen = (False, table.seen(one, number, letter), table.seen(other, number, letter))
            found.append(((number, letter), seen))
        return found

    def _is_end(self, pair):
        """Whether one of the two refuses all, or both have ended."""
        is_base, one, other = pair
        return one == NONE or other == NONE or (not is_base and one < self._functions.floor)

    def _plan_to(self, pair, ways):
        is_base, one, other = pair
        worths = (one - 1, other - 1)
        plan = []
        if one == NONE or other == NONE:
            function = max(one, other)
            if is_base:
                function = self._bases.allowing[function]
            plan = self._functions.going_on(function, min(list(self._functions.fewest(function))))
        while ways[pair] is not None:
            pair, step = ways[pair]
            plan = self._plan_of(step, worths) + plan
        return plan

    def _plan_of(self, step, worths):
        if isinstance(step, int):
            return [step]
        number, letter = step
        if NONE - 1 in worths:
            return [letter]
        return plan_along(self._bases.machine, letter, self._bases.views[number].apart(letter, worths[0], worths[1]))
