"""Bases: what hangs on the open nodes for all nodes to come.

Behind a past with open nodes a base tells which going ons there are, and of each node that may come in them what it
sees. It is a shape whose letters are children that come. Its labels are pairs: the base behind the close of the
deepest open node, and for each question and letter (but those where there is nothing to see) the function that tells
the class of points of a child with the letter. Bases have numbers: 0 refuses all, and 1 is at rest.
"""

from keptnomore.functions import Functions
from keptnomore.shapes import Frame, Shapes, numbered
from keptnomore.views import View

NONE = 0
REST = 1


class Bases:
    """All bases that were come upon, and the functions that belong to them."""

    def __init__(self, machine, parts):
        self.machine = machine
        self.views = [View(machine, part) for part in parts]
        floor = 1 + max([2] + [many for view in self.views for many in view.many])
        self.shapes = Shapes()
        self.functions = Functions(machine, self.shapes, floor)
        self.marked = [(number, letter) for number, view in enumerate(self.views)
                       for letter in range(len(machine.letters)) if not view.is_plain(letter)]
        self.mark_at = {pair: at for at, pair in enumerate(self.marked)}
        self.shape = [None, None]
        self.labels = [(), ()]
        # The functions that tell only which going ons there are; their value is 0.
        self.allowing = [0, 1]
        self._known = {}
        self._moved = {}
        self._pushed = {}
        self._frames = {}
        self._own = {}
        self._hopes = {}

    def known(self, shape, labels):
        """The number of the base with this shape and these labels."""
        if len(labels) == 1 and labels[0][0] == NONE:
            return NONE
        key = (shape, labels)
        if key not in self._known:
            self._known[key] = len(self.shape)
            self.shape.append(shape)
            self.labels.append(labels)
            self.allowing.append(self.functions.merged(shape, [self.allowing[behind] for behind, _ in labels]))
        return self._known[key]

    def moved(self, base, letter):
        """The base behind one more child."""
        if base == REST:
            return REST if self.machine.roots[letter] else NONE
        if base == NONE:
            return NONE
        key = (base, self.machine.action_of[letter])
        if key not in self._moved:
            place = self.shapes.rows[self.shape[base]][0][key[1]]
            shape, order = self.shapes.turned(self.shape[base], place)
            labels = self.labels[base]
            self._moved[key] = self.known(shape, tuple([labels[at] for at in order]))
        return self._moved[key]

    def label(self, base):
        """The base behind a close, and what children see that come now."""
        return self.labels[base][self.shapes.outs[self.shape[base]][0]]

    def left(self, base):
        """The base behind a close."""
        return NONE if base in (NONE, REST) else self.label(base)[0]

    def seen(self, base, number, letter):
        """The function that tells the class of points of a child with a letter that comes now."""
        classes = self.views[number].classes[letter]
        if base == REST:
            return classes[0] + 1 if self.machine.roots[letter] else 0
        if (number, letter) in self.mark_at:
            return 0 if base == NONE else self.label(base)[1][self.mark_at[(number, letter)]]
        return self.functions.composed(self.allowing[self.moved(base, letter)], (classes[1],))

    def is_let(self, base, sort):
        """Whether a node of a sort may be opened."""
        return any([letter is not None and self.moved(base, letter) != NONE for letter in self.machine.ends[sort]])

    def pushed(self, base, sort):
        """The base behind the opening of a node of a sort."""
        key = (base, sort)
        if key not in self._pushed:
            pattern, unlike = numbered(self._labels_in(base, sort))
            if pattern not in self._frames:
                self._frames[pattern] = Frame(self.shapes, self.machine.narrow_rows, pattern)
            shape, labels = self._frames[pattern].labelled(0, unlike)
            self._pushed[key] = self.known(shape, labels)
        return self._pushed[key]

    def _labels_in(self, base, sort):
        """The labels of the states of a new node."""
        machine = self.machine
        behind = [NONE if letter is None else self.moved(base, letter) for letter in machine.ends[sort]]
        plates = {}
        labels = []
        for state, left in enumerate(behind):
            row = []
            for number, letter in self.marked:
                key = (number, letter, machine.earliers[state] & self.views[number].earlier)
                if key not in plates:
                    plates[key] = self._plate(base, sort, key)
                wide = machine.wide_at[(machine.moves[state][letter], 0)]
                row.append(self.functions.pushed(sort, plates[key], wide))
            labels.append((left, tuple(row)))
        return labels

    def _plate(self, base, sort, key):
        """For each exit of a new node the function that tells the class of points of a child in it."""
        number, child, earlier = key
        view = self.views[number]
        labels = []
        for letter, later in self.machine.exits[sort]:
            if letter is None:
                labels.append(0)
            else:
                step = view.step(letter, (child, earlier, later & view.later))
                labels.append(self.functions.composed(self.seen(base, number, letter), step))
        return labels

    def own(self, base, sort, number):
        """The function that tells whether a question selects a node of a sort that is opened now."""
        key = (base, sort, number)
        if key not in self._own:
            answers = self.views[number].answers
            labels = [0 if letter is None else self.functions.composed(self.seen(base, number, letter), answers[letter])
                      for letter, _ in self.machine.exits[sort]]
            self._own[key] = self.functions.pushed(sort, labels, 0)
        return self._own[key]

    def below_first(self, base):
        """The base and all that it is put together of, in an order in which labels stand ahead."""
        seen = set()
        waiting = [base]
        while waiting:
            at = waiting.pop()
            if at not in (NONE, REST) and at not in seen:
                seen.add(at)
                waiting.extend([behind for behind, _ in self.labels[at]])
        return sorted(seen)

    def hopes(self, base):
        """The ascending numbers of the questions for which some node to come can be told."""
        found = []
        for at in self.below_first(base):
            found.extend(self._hopes_at(at))
        return sorted(set(found))

    def _hopes_at(self, base):
        """The questions for which a node can be told that comes ahead of the next close."""
        if base not in self._hopes:
            seen = {base: True}
            found = []
            waiting = [base]
            while waiting:
                at = waiting.pop()
                found.extend([number for number in range(len(self.views)) if self._is_hoped(at, number)])
                for letter in self.machine.cheapest:
                    place = self.moved(at, letter)
                    if place not in seen and place != NONE:
                        seen[place] = True
                        waiting.append(place)
            self._hopes[base] = sorted(set(found))
        return self._hopes[base]

    def _is_hoped(self, base, number):
        picks = self.views[number].picks()
        for letter, row in enumerate(picks):
            spread = self.functions.spread[self.seen(base, number, letter)]
            if any([is_picked and spread & (1 << worth) for worth, is_picked in enumerate(row)]):
                return True
        return False
