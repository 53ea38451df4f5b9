"""Families: which child a node with a letter can have, what can stand beside the child, and the cheapest way to it."""

from heapq import heappop, heappush


class Families:
    """For each letter the triples of a child's letter and the kinds ahead of it and behind it that count."""

    def __init__(self, machine):
        self._machine = machine
        self._ways = [{} for _ in machine.letters]
        self._steps = {}
        for letter in range(len(machine.letters)):
            for earlier in sorted(set(machine.earliers)):
                self._spread(letter, earlier)

    def triples(self, letter):
        """The triples for nodes with this letter."""
        return list(self._ways[letter])

    def cost(self, letter, triple):
        """The number of nodes of a node with the letter and such a child, without those of the child."""
        return self._ways[letter][triple][0]

    def way(self, letter, triple):
        """The cheapest such node: the sort of its name, the letters ahead of the child and those behind it."""
        _, sort, wide = self._ways[letter][triple]
        steps = self._steps[(triple[0], triple[1])]
        behind = []
        before, by = steps[wide]
        while by is not None:
            behind.append(by)
            before, by = steps[before]
        return sort, word_to(self._machine, before), behind[::-1]

    def _spread(self, child, earlier):
        machine = self._machine
        steps = {}
        # A step to a state is the state ahead of it and the letter; at first, the state ahead of the child and None.
        queue = [(cost, machine.wide_at[(machine.moves[state][child], 0)], state, 0)
                 for state, cost in enumerate(machine.state_costs) if machine.earliers[state] == earlier]
        queue = sorted(queue)
        while queue:
            cost, wide, before, by = heappop(queue)
            if wide in steps:
                continue
            steps[wide] = (before, None if by == 0 else by - 1)
            self._put_ends(child, earlier, cost, wide)
            for letter, place in enumerate(machine.wide_moves[wide]):
                if place not in steps:
                    heappush(queue, (cost + machine.costs[letter], place, wide, letter + 1))
        self._steps[(child, earlier)] = steps

    def _put_ends(self, child, earlier, cost, wide):
        state, later = self._machine.wides[wide]
        triple = (child, earlier, later)
        for sort, ends in enumerate(self._machine.ends):
            letter = ends[state]
            if letter is not None:
                ways = self._ways[letter]
                if triple not in ways or cost + 1 < ways[triple][0]:
                    ways[triple] = (cost + 1, sort, wide)


def word_to(machine, state):
    """The cheapest row of letters that leads to a state."""
    word = []
    while machine.state_ways[state] is not None:
        state, letter = machine.state_ways[state]
        word.append(letter)
    return word[::-1]
