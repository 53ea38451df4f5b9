"""Sights: a row of trees as a house sees it, and what its nodes hang on."""

from keptnomore.machines import mask_of
from keptnomore.questions import Surroundings


class Sight:
    """A tree: its letter, or None if it is not allowed, and for each question and mark the bits for all points."""

    def __init__(self, machine, views, tree):
        bits = machine.bits
        around = Surroundings(machine.read_kinds, tree)
        self._rows = [mask_of(row, bits) for row in around.rows]
        self._parents = around.parents
        self._ahead = [mask_of(row, bits) for row in around.ahead]
        self._behind = [mask_of(row, bits) for row in around.behind]
        self.having = self._rows[0]
        self.letter = self._letter_in(machine)
        marks = [node.mark for node in tree]
        self.told = {}
        for number, view in enumerate(views):
            points = [self._bits_from(view, point) for point in range(len(view.points))]
            for at, mark in enumerate(marks):
                self.told[(number, mark)] = tuple([row[at] for row in points])

    def _letter_in(self, machine):
        if not all([row & machine.alls == machine.alls for row in self._rows]):
            return None
        within = 0
        for row in self._rows:
            within = within | row
        return machine.letters.index((self.having, within & machine.belows))

    def _bits_from(self, view, point):
        """For each node whether it is selected, if the root is at the point."""
        aboves = []
        bits = []
        for row, parent, ahead, behind in zip(self._rows, self._parents, self._ahead, self._behind):
            place = point
            if parent is not None:
                place = view.place[(aboves[parent], ahead & view.earlier, behind & view.later)]
            bit, above = view.said_at(row, place)
            bits.append(bit)
            aboves.append(above)
        return bits


class Row:
    """A row of trees: its letters, or None if one of the trees is not allowed, and the kinds of its trees."""

    def __init__(self, machine, views, trees):
        sights = [Sight(machine, views, tree) for tree in trees]
        letters = [sight.letter for sight in sights]
        self.letters = None if None in letters else letters
        self.having = 0
        for sight in sights:
            self.having = self.having | sight.having
        # For each question and mark the bits, and the kinds of the trees ahead and behind in the row.
        self.told = {}
        for at, sight in enumerate(sights):
            ahead = 0
            for other in sights[:at]:
                ahead = ahead | other.having
            behind = 0
            for other in sights[at + 1:]:
                behind = behind | other.having
            for pair in sight.told:
                self.told[pair] = (sight.told[pair], ahead, behind)
