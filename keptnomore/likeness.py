"""Whether some house takes two rows of trees unlike.

Two documents are looked at together that differ only in a gap, where one has the first row and the other the second
one. The search goes from the gap to the root. In each node on the way there is a place: the states of the node in the
two documents, and at most one marked node whose selection may differ, by a question's number and two tables. A table
tells the selection, or the class of points, for each way to be seen from above and each kinds still to come. When the
node closes, the two letters and the tables for its points are the next gap.
"""

from keptnomore.families import word_to
from keptnomore.plans import plan_along
from keptnomore.sights import Row

DEAD = -1
PLAIN = (-1, (), ())
BOTTOM = ()


class Likeness:
    """The search for a house that takes two rows of trees unlike."""

    def __init__(self, bases, one, other):
        self._bases = bases
        self._machine = bases.machine
        self._views = bases.views
        self._pairs = [[(above, behind) for above, ahead, behind in view.points[1:] if ahead == 0]
                       for view in bases.views]
        self._rows = [Row(bases.machine, bases.views, trees) for trees in (one, other)]
        self._lefts = {}
        self._set_lefts()
        # For each place the gap and what is ahead of it, or the place ahead and the step; for each gap the place below.
        self._ways = {}
        self._gaps = {BOTTOM: None}
        self._waiting = []
        self._found = None
        self._search()

    def _table(self, number, bits, earlier, behind):
        """A table from bits, or classes, for all points, where these kinds are ahead and these behind."""
        view = self._views[number]
        ahead = earlier & view.earlier
        return tuple([bits[view.place[(above, ahead, (later | behind) & view.later)]]
                      for above, later in self._pairs[number]])

    def _absorbed(self, number, table, having):
        """A table behind more siblings with these kinds."""
        later = having & self._views[number].later
        if later == 0:
            return table
        places = {pair: at for at, pair in enumerate(self._pairs[number])}
        return tuple([table[places[(above, behind | later)]] for above, behind in self._pairs[number]])

    def _one_more(self, number, table, letter):
        return self._absorbed(number, table, self._machine.letters[letter][0])

    def _marks_at(self, state):
        """The marks that a child can get which comes now: question, letter, table."""
        earlier = self._machine.earliers[state]
        return [(number, letter, self._table(number, self._views[number].classes[letter], earlier, 0))
                for number, letter in self._bases.marked]

    def _set_lefts(self):
        """All states ahead of a gap with one marked child: (state, question, table), and the ways to them."""
        waiting = []
        for state in range(len(self._machine.moves)):
            for number, letter, table in self._marks_at(state):
                left = (self._machine.moves[state][letter], number, table)
                if left not in self._lefts:
                    self._lefts[left] = (None, (state, number, letter))
                    waiting.append(left)
        while waiting:
            left = waiting.pop()
            state, number, table = left
            for letter in self._machine.cheapest:
                place = (self._machine.moves[state][letter], number, self._one_more(number, table, letter))
                if place not in self._lefts:
                    self._lefts[place] = (left, letter)
                    waiting.append(place)

    def _search(self):
        one, other = self._rows
        nothing = (tuple([0 for _ in range(max([1] + [len(view.points) for view in self._views]))]), 0, 0)
        tables = {(pair[0], one.told.get(pair, nothing), other.told.get(pair, nothing)): True
                  for pair in list(one.told) + list(other.told)}
        words = [one.letters, other.letters]
        self._enter(BOTTOM, words, list(tables))
        self._enter_plain(BOTTOM, words, [one.having, other.having])
        while self._waiting and self._found is None:
            self._go_on(self._waiting.pop())

    def _after(self, state, word):
        """The state behind a row of letters; a row that is not allowed is None."""
        if word is None:
            return DEAD
        for letter in word:
            state = self._machine.moves[state][letter]
        return state

    def _enter(self, gap, words, tables):
        """Puts the places behind a gap, where a marked node is in it."""
        if None in words:
            return
        for state, earlier in enumerate(self._machine.earliers):
            places = [self._after(state, word) for word in words]
            for number, one, two in tables:
                mark = (number, self._table(number, one[0], earlier | one[1], one[2]),
                        self._table(number, two[0], earlier | two[1], two[2]))
                self._put(places, mark, (None, gap, state))

    def _enter_plain(self, gap, words, havings):
        """Puts the places behind a gap, where no marked node is in it, and at most one ahead of it."""
        for state in range(len(self._machine.moves)):
            self._put([self._after(state, word) for word in words], PLAIN, (None, gap, state))
        if None in words:
            return
        for left in self._lefts:
            state, number, table = left
            mark = (number, self._absorbed(number, table, havings[0]), self._absorbed(number, table, havings[1]))
            self._put([self._after(state, word) for word in words], mark, (None, gap, left))

    def _put(self, places, mark, way):
        if places[0] == places[1] and mark[1] == mark[2]:
            return
        if mark != PLAIN and len(set(mark[1] + mark[2])) == 1:
            return
        place = (places[0], places[1], mark)
        if place not in self._ways:
            self._ways[place] = way
            self._waiting.append(place)

    def _go_on(self, place):
        """What can come behind a place: one more child, marked or not, or the close."""
        number, one, two = place[2]
        for letter in self._machine.cheapest:
            mark = PLAIN
            if place[2] != PLAIN:
                mark = (number, self._one_more(number, one, letter), self._one_more(number, two, letter))
            self._put(self._places_behind(place, letter), mark, (place, letter, None))
        if place[2] == PLAIN and DEAD not in place[:2]:
            for first, second in zip(self._marks_at(place[0]), self._marks_at(place[1])):
                mark = (first[0], first[2], second[2])
                self._put(self._places_behind(place, first[1]), mark, (place, first[1], None))
        for sort in range(len(self._machine.names)):
            self._close(place, sort)

    def _places_behind(self, place, letter):
        return [DEAD if state == DEAD else self._machine.moves[state][letter] for state in place[:2]]

    def _close(self, place, sort):
        ends = self._machine.ends[sort]
        letters = [None if state == DEAD else ends[state] for state in place[:2]]
        roots = [letter is not None and self._machine.roots[letter] for letter in letters]
        havings = [0 if letter is None else self._machine.letters[letter][0] for letter in letters]
        if place[2] == PLAIN and letters[0] != letters[1]:
            if roots[0] != roots[1]:
                self._found = (place, sort, None)
            gap = (letters[0], letters[1], PLAIN)
            if gap not in self._gaps:
                self._gaps[gap] = (place, sort)
                self._enter_plain(gap, [None if letter is None else [letter] for letter in letters], havings)
        if None in letters:
            return
        for mark in self._marks_of(place[2], havings):
            if all(roots) and mark[1][0] != mark[2][0]:
                self._found = (place, sort, (mark[1][0], mark[2][0]))
            gap = (letters[0], letters[1], mark)
            if gap not in self._gaps and (letters[0] != letters[1] or mark[1] != mark[2]):
                self._gaps[gap] = (place, sort)
                self._enter(gap, [[letters[0]], [letters[1]]], [(mark[0], (mark[1], 0, 0), (mark[2], 0, 0))])

    def _marks_of(self, mark, havings):
        """The marks, with tables for all points of a node that closes; if none is marked in it, itself is."""
        if mark == PLAIN:
            return [(number, self._own_bits(view, havings[0]), self._own_bits(view, havings[1]))
                    for number, view in enumerate(self._views)]
        number = mark[0]
        view = self._views[number]
        places = {pair: at for at, pair in enumerate(self._pairs[number])}
        return [tuple([number] + [tuple([table[places[(view.said_at(having, point)[1], 0)]]
                                         for point in range(len(view.points))])
                                  for table, having in zip(mark[1:], havings)])]

    def _own_bits(self, view, having):
        return tuple([view.said_at(having, point)[0] for point in range(len(view.points))])

    def plan(self):
        """The plan of a past that takes the rows unlike, or None."""
        if self._found is None:
            return None
        place, sort, worths = self._found
        plan = []
        while True:
            plan.append(self._machine.names[sort])
            ahead, gap, left = self._ways[place]
            while ahead is not None:
                ahead, gap, left = self._ways[ahead]
            plan.extend(self._plan_ahead(left, worths))
            if gap == BOTTOM:
                return plan
            place, sort = self._gaps[gap]

    def _plan_ahead(self, left, worths):
        """The plan of the siblings ahead of a gap."""
        plan = []
        while isinstance(left, tuple):
            left, step = self._lefts[left]
            if left is None:
                left, number, letter = step
                triples = self._views[number].apart(letter, worths[0], worths[1])
                plan = plan_along(self._machine, letter, triples) + plan
            else:
                plan = [step] + plan
        return word_to(self._machine, left) + plan
