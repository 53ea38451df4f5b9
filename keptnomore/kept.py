"""The state of a house as a text, and the way back; and the same state in a space with a question less.

A state is a tuple: the number of open nodes, the base, and the heaps. A heap is a tuple of a question's number, a
function and the ascending marks of the pending nodes that the function tells of.

The text has rows of figures: how many open nodes and shapes there are; the shapes; for each open node, the deepest one
first, a row of bases and one of functions; the heaps. What a row refers to stands in the next one of its sort, and is
counted from 1 there; 0 refuses all.
"""

from keptnomore.bases import NONE, REST
from keptnomore.shapes import Frame, numbered

AT_REST = (0, 1, ())


class Listing:
    """Takes apart a state, open node by open node, in an order that hangs on nothing but what the state says."""

    def __init__(self, bases, state):
        self._bases = bases
        self._functions = bases.functions
        self._shapes = {}
        self._rows = []
        depth, base, heaps = state
        self._layer = [base]
        self._told = list({function: True for _, function, _ in heaps})
        self._heaps = [[number, self._told.index(function)] + list(marks) for number, function, marks in heaps]
        for _ in range(depth):
            self._put_layer()

    def text(self):
        """The text of the state."""
        sizes = [len(self._rows) // 2, len(self._shapes)]
        shapes = []
        for shape in self._shapes:
            rows = self._bases.shapes.rows[shape]
            shapes.append([len(rows)] + self._bases.shapes.outs[shape] + [place for row in rows for place in row])
        rows = [sizes] + shapes + self._rows + self._heaps
        return "\n".join([" ".join([str(number) for number in row]) for row in rows])

    def _shape(self, shape):
        return self._shapes.setdefault(shape, len(self._shapes))

    def _put_layer(self):
        bases = self._bases
        below = {NONE: 0}
        told = {function: True for function in self._told}
        row = []
        for base in self._layer:
            row.append(self._shape(bases.shape[base]))
            for behind, seen in bases.labels[base]:
                row.append(below.setdefault(behind, len(below)))
                row.append(seen)
                for function in seen:
                    told[function] = True
        self._layer = list(below)[1:]
        self._put_functions(row, [function for function in told if function])

    def _put_functions(self, base_row, told):
        places = {0: 0}
        for function in told:
            places[function] = len(places)
        flat = []
        for entry in base_row:
            if isinstance(entry, tuple):
                flat.extend([places[function] for function in entry])
            else:
                flat.append(entry)
        below = {0: 0}
        row = []
        for function in told:
            row.append(self._shape(self._functions.shape[function]))
            for label in self._functions.labels[function]:
                is_worth = label < self._functions.floor
                row.append(label if is_worth else below.setdefault(label, len(below)))
        self._told = list(below)[1:]
        self._rows.append(flat)
        self._rows.append(row)


class Reading:
    """Puts a state together that was taken apart into a text."""

    def __init__(self, bases, text):
        self._bases = bases
        self._rows = [[int(word) for word in row.split(" ")] if row else [] for row in text.split("\n")]
        depth, shapes = self._rows[0]
        self._shapes = [self._shape_of(row) for row in self._rows[1:1 + shapes]]
        layers = self._rows[1 + shapes:1 + shapes + 2 * depth]
        self._layer = [NONE, REST]
        self._told = list(range(bases.functions.floor))
        for at in reversed(range(depth)):
            self._read_layer(layers[2 * at], layers[2 * at + 1])
        self._heaps = [(row[0], self._told[row[1] + 1], tuple(row[2:])) for row in self._rows[1 + shapes + 2 * depth:]]
        self._depth = depth

    def whole(self):
        """The state."""
        if self._depth == 0:
            return AT_REST
        return (self._depth, self._layer[1], tuple(self._heaps))

    def _shape_of(self, row):
        size = row[0]
        width = len(self._bases.machine.cheapest)
        places = row[1 + size:]
        rows = [places[width * at:width * (at + 1)] for at in range(size)]
        return self._bases.shapes.known(rows, row[1:1 + size])

    def _read_layer(self, base_row, told_row):
        bases = self._bases
        told = [0]
        at = 0
        while at < len(told_row):
            shape = self._shapes[told_row[at]]
            size = max(bases.shapes.outs[shape]) + 1
            labels = [self._told[place] for place in told_row[at + 1:at + 1 + size]]
            told.append(bases.functions.known(shape, tuple(labels)))
            at += 1 + size
        layer = [NONE]
        at = 0
        many = len(bases.marked)
        while at < len(base_row):
            shape = self._shapes[base_row[at]]
            at += 1
            labels = []
            for _ in range(max(bases.shapes.outs[shape]) + 1):
                seen = tuple([told[place] for place in base_row[at + 1:at + 1 + many]])
                labels.append((self._layer[base_row[at]], seen))
                at += 1 + many
            layer.append(bases.known(shape, tuple(labels)))
        self._told = told
        self._layer = layer


class Moving:
    """Puts what belongs to a space into the space without one of its questions."""

    def __init__(self, source, goal, number):
        self._source = source
        self._goal = goal
        self._old_at = [at for at in range(len(source.views)) if at != number]
        self._told = {}
        self._moved = {NONE: NONE, REST: REST}
        self._frames = {}

    def whole(self, state):
        """The state in the other space."""
        depth, base, heaps = state
        moved = [(self._old_at.index(number), self._function(function), marks)
                 for number, function, marks in heaps if number in self._old_at]
        return (depth, self._base(base), tuple(moved))

    def _labelled(self, shape, labels):
        """The shape and labels in the other space, where fewer letters differ in what they do."""
        pattern, unlike = numbered(labels)
        key = (shape, pattern)
        if key not in self._frames:
            actions = [self._source.machine.action_of[letter] for letter in self._goal.machine.cheapest]
            rows = [[row[action] for action in actions] for row in self._source.shapes.rows[shape]]
            states = [pattern[out] for out in self._source.shapes.outs[shape]]
            self._frames[key] = Frame(self._goal.shapes, rows, states)
        return self._frames[key].labelled(0, unlike)

    def _function(self, function):
        functions = self._source.functions
        fresh = functions.below_first(function, self._told)
        for at in fresh:
            labels = [self._worth(label) for label in functions.labels[at]]
            shape, unlike = self._labelled(functions.shape[at], labels)
            self._told[at] = self._goal.functions.known(shape, unlike)
        return self._worth(function)

    def _worth(self, function):
        return function if function < self._source.functions.floor else self._told[function]

    def _base(self, base):
        parts = self._source.below_first(base)
        for at in parts:
            labels = [(self._moved[behind], self._carried(seen)) for behind, seen in self._source.labels[at]]
            shape, unlike = self._labelled(self._source.shape[at], labels)
            self._moved[at] = self._goal.known(shape, unlike)
        return self._moved[base]

    def _carried(self, seen):
        places = [self._source.mark_at[(self._old_at[number], letter)] for number, letter in self._goal.marked]
        return tuple([self._function(seen[place]) for place in places])
