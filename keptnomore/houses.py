"""Houses: questions that stand over documents which are still coming."""

from keptnomore.bases import NONE
from keptnomore.errors import NoEvent, NotPending, OtherSpace, Refused, RefusedAt, Resting
from keptnomore.kept import AT_REST, Listing, Moving, Reading
from keptnomore.papers import Paper
from keptnomore.partings import parting_plan, shortest_plan
from keptnomore.plans import events_of_plan
from keptnomore.trees import is_event

# What a function can still say, as bits: that the node is selected, that it is not, or both.
SURE = 2
OUT = 1


class Trial:
    """A block behind which a house is as it was ahead of it."""

    def __init__(self, house):
        self._house = house
        self._states = house.states
        self._held = None

    def __enter__(self):
        self._held = self._states[0]
        return self._house

    def __exit__(self, kind, value, trace):
        self._states.clear()
        self._states.append(self._held)


class House:
    """What is kept of a document that is coming: the number of open nodes, the base and the heaps."""

    def __init__(self, space):
        self._space = space
        self._bases = space.bases()
        # A list with the state alone: a trial puts back what is in it.
        self.states = [AT_REST]

    @staticmethod
    def read(space, text):
        """A house that is alike to the one whose text it is."""
        house = House(space)
        house.states[0] = Reading(space.bases(), text).whole()
        return house

    @property
    def space(self):
        """The space of the house."""
        return self._space

    @property
    def depth(self):
        """The number of open nodes."""
        return self.states[0][0]

    @property
    def is_resting(self):
        """Whether no node is open."""
        return self.states[0][0] == 0

    def __call__(self, event):
        return self.take(event)

    def take(self, event):
        """Takes an event, and returns the pairs of the nodes that are sure now."""
        found = self._after(self.states[0], event)
        if found is None:
            raise Refused(event)
        self.states[0], told = found
        return told

    def run(self, events):
        """Takes a row of events, or none of them, and returns what each one told, with its index."""
        state = self.states[0]
        triples = []
        for at, event in enumerate(list(events)):
            found = self._after(state, event)
            if found is None:
                raise RefusedAt(at)
            state, told = found
            triples.extend([(at, question, mark) for question, mark in told])
        self.states[0] = state
        return triples

    def over(self, events):
        """Takes a row of events one by one; the triples that they tell, one after another."""
        for at, event in enumerate(list(events)):
            for question, mark in self._taken(at, event):
                yield (at, question, mark)

    def _taken(self, at, event):
        try:
            return self.take(event)
        except Refused:
            raise RefusedAt(at) from None

    def _after(self, state, event):
        """The state behind an event, and what it tells; None if it is refused."""
        if not is_event(event):
            raise NoEvent(event)
        if len(event) == 3:
            return self._opened(state, event[1], event[2])
        depth, base, heaps = state
        left = self._bases.left(base)
        if left == NONE:
            return None
        functions = self._bases.functions
        return self._settled(depth - 1, left, [(number, functions.left(function), marks)
                                               for number, function, marks in heaps])

    def _opened(self, state, name, mark):
        depth, base, heaps = state
        bases = self._bases
        sort = bases.machine.sort_of(name)
        if not bases.is_let(base, sort):
            return None
        moved = [(number, bases.functions.under(function, sort), marks) for number, function, marks in heaps]
        own = [(number, bases.own(base, sort, number), (mark,)) for number in range(len(bases.views))]
        return self._settled(depth + 1, bases.pushed(base, sort), moved + own)

    def _settled(self, depth, base, heaps):
        """The state of these heaps, and the pairs of those that are sure."""
        told = []
        pending = {}
        for number, function, marks in heaps:
            spread = self._bases.functions.spread[function]
            if spread == SURE:
                told.extend([(number, mark) for mark in marks])
            elif spread != OUT:
                pending.setdefault((number, function), []).extend(list(marks))
        gathered = [(number, tuple(sorted(pending[(number, function)])), function) for number, function in pending]
        state = (depth, base, tuple([(number, function, marks) for number, marks, function in sorted(gathered)]))
        return state, sorted(told)

    def pending(self):
        """The ascending pairs of all pending nodes."""
        return sorted([(number, mark) for number, _, marks in self.states[0][2] for mark in marks])

    def heaps(self):
        """The ascending pairs of a question and the marks of nodes that only go together."""
        return [(number, marks) for number, _, marks in self.states[0][2]]

    def may(self):
        """The words for what is allowed."""
        machine = self._bases.machine
        base = self.states[0][1]
        lets = [self._bases.is_let(base, sort) for sort in range(len(machine.names))]
        words = [name for name in self._space.kinds.names if lets[machine.sort_of(name)]]
        if lets[machine.other_sort]:
            words.append("other")
        if self._bases.left(base) != NONE:
            words.append("/")
        return words

    def ending(self, *, free):
        """A going on with as few events as possible."""
        plan = self._bases.functions.going_on(self._bases.allowing[self.states[0][1]], 0)
        return events_of_plan(self._bases.machine, plan, free)

    def copied(self):
        """An independent house in the same state."""
        house = House(self._space)
        house.states[0] = self.states[0]
        return house

    def trial(self):
        """For a block behind which the house is as it was ahead of it."""
        return Trial(self)

    def tried(self, work):
        """What the work returns, which may do to the house what it will."""
        with self.trial() as house:
            return work(house)

    def kept(self):
        """The text of the state."""
        return Listing(self._bases, self.states[0]).text()

    def is_alike(self, other):
        """Whether the spaces are equal, and nothing parts the houses."""
        if not self._space == other.space:
            return False
        return self.kept() == other.kept()

    def parting(self, other, *, free):
        """Events with which the houses part, or None."""
        if not self._space == other.space:
            raise OtherSpace()
        one = self.states[0]
        two = Reading(self._bases, other.kept()).whole()
        if one[0] != two[0]:
            return self._parting_by_depth(other, free)
        plan = parting_plan(self._bases, one, two)
        return None if plan is None else events_of_plan(self._bases.machine, plan, free)

    def _parting_by_depth(self, other, free):
        """A close at the end is refused by the house that has fewer open nodes, but not by the other one."""
        low, high = self.copied(), other.copied()
        if low.depth > high.depth:
            low, high = high, low
        ahead = low.ending(free=free)
        for event in ahead:
            try:
                high.take(event)
            except Refused:
                continue
        opened = [event for event in ahead if len(event) == 3]
        return ahead + high.ending(free=free + len(opened))

    def shortest(self, *, free):
        """A past with as few events as possible that leads to a house alike for nodes to come."""
        plan = shortest_plan(self._bases, self.states[0][0], self.states[0][1])
        return events_of_plan(self._bases.machine, plan, free)

    def without(self, number):
        """A house of the space without a question, as if it had taken the same past there."""
        house = House(self._space.without(number))
        house.states[0] = Moving(self._bases, house.space.bases(), number).whole(self.states[0])
        return house

    def hopes(self):
        """The ascending numbers of the questions for which a node can still be told."""
        return sorted(set([number for number, _, _ in self.states[0][2]] + self._bases.hopes(self.states[0][1])))

    def why(self, question, mark, *, free):
        """The paper that shows that a node is pending."""
        found = [function for number, function, marks in self.states[0][2] if number == question and mark in marks]
        if not found:
            raise NotPending(question, mark)
        functions = self._bases.functions
        yes, no = [events_of_plan(self._bases.machine, functions.going_on(found[0], worth), free) for worth in (1, 0)]
        return Paper(question, mark, yes, no)

    def put(self, bundle):
        """Takes all events of a bundle, and returns the ascending pairs that they tell."""
        if not self._space == bundle.space:
            raise OtherSpace()
        if self.is_resting:
            raise Resting()
        state = self.states[0]
        pairs = []
        for event in bundle.listed():
            found = self._after(state, event)
            if found is None:
                raise Refused(bundle)
            state, told = found
            pairs.extend(told)
        self.states[0] = state
        return sorted(pairs)
