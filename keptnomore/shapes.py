"""Shapes: machines with as few states as possible, each of which has a label.

The states of a shape are numbered in the order in which they are come upon from the first one, and so are the
labels. Therefore two machines say the same exactly if their shapes are the same, and the labels in their order.
"""


def numbered(labels):
    """For each label the number of the first one like it, and the unlike labels in their order."""
    seen = {}
    pattern = tuple([seen.setdefault(label, len(seen)) for label in labels])
    return pattern, list(seen)


def blocks_of(rows, pattern):
    """For each state the number of its block: states in one block can't be told apart by their labels."""
    blocks = list(pattern)
    many = len(set(blocks))
    while True:
        seen = {}
        finer = []
        for at, row in enumerate(rows):
            key = (blocks[at], tuple([blocks[place] for place in row]))
            finer.append(seen.setdefault(key, len(seen)))
        if len(seen) == many:
            return blocks
        blocks = finer
        many = len(seen)


class Shapes:
    """All shapes that were come upon; they have numbers."""

    def __init__(self):
        self.rows = []
        self.outs = []
        self._known = {}
        self._turned = {}
        self._frames = {}

    def known(self, rows, outs):
        """The number of the shape with these rows and labels."""
        key = (tuple([place for row in rows for place in row]), tuple(outs))
        found = self._known.setdefault(key, len(self.rows))
        if found == len(self.rows):
            self.rows.append([list(row) for row in rows])
            self.outs.append(list(outs))
        return found

    def from_blocks(self, rows, pattern, blocks, start):
        """The shape of a state, and the pattern's labels in the order of the shape."""
        places = {blocks[start]: 0}
        met = [start]
        labels = {}
        shape_rows = []
        outs = []
        while len(shape_rows) < len(met):
            at = met[len(shape_rows)]
            outs.append(labels.setdefault(pattern[at], len(labels)))
            row = []
            for place in rows[at]:
                block = blocks[place]
                if block not in places:
                    places[block] = len(met)
                    met.append(place)
                row.append(places[block])
            shape_rows.append(row)
        return self.known(shape_rows, outs), list(labels)

    def turned(self, shape, state):
        """The shape of another state of a shape, and the labels' numbers in its order."""
        key = (shape, state)
        if key not in self._turned:
            rows = self.rows[shape]
            self._turned[key] = self.from_blocks(rows, self.outs[shape], list(range(len(rows))), state)
        return self._turned[key]

    def merged(self, shape, labels):
        """The shape and labels of a shape that gets these labels, some of which may be the same."""
        pattern, unlike = numbered(labels)
        if len(unlike) == len(labels):
            return shape, tuple(labels)
        key = (shape, pattern)
        if key not in self._frames:
            self._frames[key] = Frame(self, self.rows[shape], [pattern[out] for out in self.outs[shape]])
        return self._frames[key].labelled(0, unlike)


class Frame:
    """A machine with a pattern of labels."""

    def __init__(self, shapes, rows, pattern):
        self._shapes = shapes
        self._rows = rows
        self._pattern = pattern
        self._blocks = blocks_of(rows, pattern)
        self._found = {}

    def labelled(self, start, labels):
        """The shape of a state, and its labels; `labels` has those of the pattern."""
        block = self._blocks[start]
        if block not in self._found:
            self._found[block] = self._shapes.from_blocks(self._rows, self._pattern, self._blocks, start)
        shape, order = self._found[block]
        return shape, tuple([labels[place] for place in order])
