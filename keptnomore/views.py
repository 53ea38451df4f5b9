"""Views: what a node sees of all that is above and beside it, as far as one question can depend on it.

A point is what a child sees: a number for which outer conditions hold at its parent and above, the kinds behind an
`earlier` among the siblings ahead of it, and those behind a `later` among the siblings behind it. The first point is
that of a root. Points that tell no two nodes in a tree with a letter apart are of one class there.
"""

from keptnomore.conditions import OUTER, atoms_of, holds, text_of
from keptnomore.shapes import numbered


def parts_of(mask):
    """All numbers whose bits are among those of the mask, ascending."""
    found = [0]
    for place in range(mask.bit_length()):
        if mask & (1 << place):
            found = found + [low | (1 << place) for low in found]
    return found


def kinds_behind(head, part):
    """The kinds that stand behind this word in a question, each once, ascending."""
    return sorted({atom[1][1] for atom in atoms_of(part) if atom[0] == "atom" and atom[1][0] == head})


def outers_of(part):
    """The unlike outer conditions in a question, by their texts."""
    return {text_of(atom[1]): atom[1] for atom in atoms_of(part) if atom[0] in OUTER}


class Seeing:
    """The points of one question, and what it says there."""

    def __init__(self, machine, part):
        self._machine = machine
        self._part = part
        self._atoms = [(text_of(atom), atom) for atom in atoms_of(part)]
        outers = outers_of(part)
        self._outers = list(outers.values())
        self._outer_at = {text: at for at, text in enumerate(outers)}
        self.earlier = self._mask("earlier")
        self.later = self._mask("later")
        # From above each outer condition holds at the parent, or only further up, or nowhere; 0 is at a root.
        self.aboves = 1
        for _ in outers:
            self.aboves = self.aboves * 3
        self.points = [(0, 0, 0)] + [(above, ahead, behind) for above in range(1, self.aboves + 1)
                                     for ahead in parts_of(self.earlier) for behind in parts_of(self.later)]
        self.place = {point: at for at, point in enumerate(self.points)}
        self._seen = {}

    def _mask(self, head):
        mask = 0
        for kind in kinds_behind(head, self._part):
            mask = mask | self._machine.bits[kind]
        return mask

    def said_at(self, having, point):
        """Whether the question selects a node with these kinds at a point, and what its children see from above."""
        key = (having, point)
        if key not in self._seen:
            worths = self._worths(self.points[point][0])
            truths = {text: self._is_true(atom, having, point, worths) for text, atom in self._atoms}
            above = 1
            weight = 1
            for outer, worth in zip(self._outers, worths):
                above = above + weight * (2 if holds(outer, truths) else min(worth, 1))
                weight = weight * 3
            self._seen[key] = (1 if holds(self._part, truths) else 0, above)
        return self._seen[key]

    def _worths(self, above):
        """For each outer condition 2 if it holds at the parent, otherwise 1 if it holds somewhere above."""
        rest = max(above - 1, 0)
        worths = []
        for _ in self._outers:
            worths.append(rest % 3)
            rest = rest // 3
        return worths

    def _is_true(self, atom, having, point, worths):
        head, under = atom
        if head in OUTER:
            return worths[self._outer_at[text_of(under)]] >= (2 if head == "parent" else 1)
        if under[0] == "root":
            return point == 0
        bit = self._machine.bits[under[1]]
        if under[0] == "is":
            return having & bit > 0
        return self.points[point][1 if under[0] == "earlier" else 2] & bit > 0

    def point_below(self, letter, point, triple):
        """The point of a child in a node with the letter at a point."""
        _, ahead, behind = triple
        above = self.said_at(self._machine.letters[letter][0], point)[1]
        return self.place[(above, ahead & self.earlier, behind & self.later)]


class View(Seeing):
    """The points of a question with their classes for each letter."""

    def __init__(self, machine, part):
        super().__init__(machine, part)
        self._steps = {}
        self._picks = []
        self._set_classes()

    def triples(self, letter):
        """The triples of the families that differ for this question."""
        return sorted({(child, ahead & self.earlier, behind & self.later)
                       for child, ahead, behind in self._machine.families().triples(letter)})

    def _set_classes(self):
        machine = self._machine
        inner = [[0 for _ in range(self.aboves + 1)] for _ in machine.letters]
        triples = [self.triples(letter) if self._outers else [] for letter in range(len(machine.letters))]
        size = 0
        while True:
            told = [[self.said_at(letter[0], point) for point in range(len(self.points))] for letter in machine.letters]
            rows = [numbered([(bit, inner[at][above]) for bit, above in row]) for at, row in enumerate(told)]
            self.classes = [row[0] for row in rows]
            if sum([len(row[1]) for row in rows]) == size:
                break
            size = sum([len(row[1]) for row in rows])
            inner = [numbered([tuple([self.classes[child][self.place[(above, ahead, behind)]]
                                      for child, ahead, behind in family]) if above else ()
                               for above in range(self.aboves + 1)])[0] for family in triples]
        self.many = [len(row[1]) for row in rows]
        self.firsts = [[pattern.index(number) for number in range(max(pattern) + 1)] for pattern in self.classes]
        self.answers = [tuple([told[at][first][0] for first in firsts]) for at, firsts in enumerate(self.firsts)]

    def is_plain(self, letter):
        """Whether all points but that of a root are of one class."""
        return len(set(self.classes[letter][1:])) == 1

    def step(self, letter, triple):
        """For each class of points of a node with the letter the class of its child's point."""
        key = (letter, triple)
        if key not in self._steps:
            self._steps[key] = tuple([self.classes[triple[0]][self.point_below(letter, first, triple)]
                                      for first in self.firsts[letter]])
        return self._steps[key]

    def picks(self):
        """For each letter and class of points whether some tree with the letter has a node there that is selected."""
        if not self._picks:
            found = [list(row) for row in self.answers]
            letters = range(len(found))
            families = [[(triple[0], self.step(letter, triple)) for triple in self.triples(letter)]
                        for letter in letters]
            before = []
            while found != before:
                before = [list(row) for row in found]
                found = [[max([worth] + [before[child][step[at]] for child, step in families[letter]])
                          for at, worth in enumerate(before[letter])] for letter in letters]
            self._picks = found
        return self._picks

    def apart(self, letter, one, other):
        """The triples on the way to a node, in a tree with the letter, that two classes of points tell apart."""
        ways = {(letter, one, other): []}
        waiting = [(letter, one, other)]
        done = 0
        while self._is_told_alike(waiting[done]):
            at, first, second = waiting[done]
            done += 1
            for triple in self._machine.families().triples(at):
                step = self.step(at, triple)
                key = (triple[0], step[first], step[second])
                if key not in ways:
                    ways[key] = ways[(at, first, second)] + [triple]
                    waiting.append(key)
        return ways[waiting[done]]

    def _is_told_alike(self, key):
        letter, one, other = key
        return self.answers[letter][one] == self.answers[letter][other]
