"""The machine that takes the children of a node one by one.

Of a child it sees the letter: the kinds that the child has, and the kinds behind a `below` that it has or that stand
somewhere in it. Kinds are kept as bits, in their order. A state is what the conditions' atoms know of the children
so far, and which kinds behind an `earlier` were among them. A wide state knows more: which kinds behind a `later`
came since some child was marked.
"""

from heapq import heappop, heappush

from keptnomore.conditions import holds
from keptnomore.families import Families


def atom_of(text, bits):
    """An atom as (head, bit of the first kind, bit of the second kind or modulus, rest)."""
    words = text.split(" ")
    if words[1] in ("then", "next"):
        return (words[1], bits[words[0]], bits[words[2]], 0)
    if words[0] == "count":
        return ("count", bits[words[1]], int(words[3]), int(words[5]))
    return (words[0], bits[words[1]], 0, 0)


def stepped(atom, worth, letter):
    """What an atom knows behind one more child."""
    head, one, two, _ = atom
    has = 1 if letter[0] & one else 0
    if head == "some":
        return worth | has
    if head == "every":
        return worth & has
    if head == "below":
        return 1 if letter[1] & one else worth
    if head == "last":
        return has
    if head == "first":
        return worth if worth else 2 - has
    if head == "count":
        return (worth + has) % two
    if worth == 2 or (worth == 1 and letter[0] & two):
        return 2
    return max(worth, has) if head == "then" else has


def is_true(atom, worth):
    """Whether an atom holds if no more children come."""
    if atom[0] == "count":
        return worth == atom[3]
    return worth == (2 if atom[0] in ("then", "next") else 1)


def mask_of(kinds, bits):
    """The bits of these kinds."""
    mask = 0
    for kind in kinds:
        mask = mask | bits[kind]
    return mask


def free_name(names):
    """A name that is none of these."""
    return [sign for sign in "oxyzabcdefghijklmnpqrstuvw" if sign not in names][0]


class Machine:
    """All states and letters, the moves between them, and the cheapest ways to them."""

    def __init__(self, kinds, rules, earlier, later):
        self.read_kinds = kinds
        self.bits = {kind: 1 << at for at, kind in enumerate(kinds.words)}
        self.earlier = mask_of(earlier, self.bits)
        self.later = mask_of(later, self.bits)
        self.alls = mask_of(rules.kinds_of("all"), self.bits)
        self._atoms = [atom_of(text, self.bits) for text in kinds.atoms]
        self.belows = mask_of([text.split(" ")[1] for text in kinds.atoms if text.startswith("below ")], self.bits)
        self._set_names()
        self._explore()
        self._set_moves()
        roots = mask_of(rules.kinds_of("root"), self.bits)
        self.roots = [letter[0] & roots == roots for letter in self.letters]
        self._families = []

    def families(self):
        """The families of the letters."""
        if not self._families:
            self._families = [Families(self)]
        return self._families[0]

    def _set_names(self):
        """Names that stand in the same rows are one; `names` has one of each sort, `sort_of` the sorts' numbers."""
        other = free_name(self.read_kinds.names)
        sorts = []
        self.names = []
        self._sort_of = {}
        for name in self.read_kinds.names + (other,):
            sort = [self.read_kinds.has_name(row, name) for row in self.read_kinds.rows]
            if sort not in sorts:
                sorts.append(sort)
                self.names.append(name)
            self._sort_of[name] = sorts.index(sort)
        self.other_sort = self._sort_of.pop(other)
        self._sorts = sorts

    def sort_of(self, name):
        """The number of a name's sort."""
        return self._sort_of.get(name, self.other_sort)

    def _after(self, state, letter):
        worths = [stepped(atom, worth, letter) for atom, worth in zip(self._atoms, state)]
        return tuple(worths + [state[-1] | (letter[0] & self.earlier)])

    def _letters_at(self, state):
        """For each sort of names the letter of a node whose children led to the state, or None if not allowed."""
        truths = {text: is_true(atom, worth) for text, atom, worth in zip(self.read_kinds.atoms, self._atoms, state)}
        fits = [row.condition is None or holds(row.condition, truths) for row in self.read_kinds.rows]
        within = 0
        for atom, worth in zip(self._atoms, state):
            if atom[0] == "below" and worth:
                within = within | atom[1]
        found = []
        for sort in self._sorts:
            having = mask_of([kind for kind, is_named, is_fit in zip(self.read_kinds.words, sort, fits)
                              if is_named and is_fit], self.bits)
            is_let = having & self.alls == self.alls
            found.append((having, within | (having & self.belows)) if is_let else None)
        return found

    def _explore(self):
        """Finds all states and letters, those with the fewest nodes first."""
        begin = tuple([1 if atom[0] == "every" else 0 for atom in self._atoms] + [0])
        states = {}
        letters = {}
        queue = [(0, 0, begin, ())]
        while queue:
            cost, is_letter, found, way = heappop(queue)
            if is_letter and found not in letters:
                letters[found] = (cost, way)
                for state in states:
                    heappush(queue, (cost + states[state][0], 0, self._after(state, found), (state, found)))
            elif not is_letter and found not in states:
                states[found] = (cost, way)
                for sort, letter in enumerate(self._letters_at(found)):
                    if letter is not None:
                        heappush(queue, (cost + 1, 1, letter, (sort, found)))
                for letter in letters:
                    heappush(queue, (cost + letters[letter][0], 0, self._after(found, letter), (found, letter)))
        self._number(states, letters)

    def _number(self, states, letters):
        """Numbers the states and letters; those of letters hang on nothing but kinds and rules."""
        self._states = list(states)
        self.letters = sorted(letters)
        places = {state: at for at, state in enumerate(self._states)}
        numbers = {letter: at for at, letter in enumerate(self.letters)}
        self.costs = [letters[letter][0] for letter in self.letters]
        self.letter_ways = [(letters[letter][1][0], places[letters[letter][1][1]]) for letter in self.letters]
        self.state_costs = [states[state][0] for state in self._states]
        ways = [states[state][1] for state in self._states]
        self.state_ways = [None if way == () else (places[way[0]], numbers[way[1]]) for way in ways]
        self.earliers = [state[-1] for state in self._states]
        self.moves = [[places[self._after(state, letter)] for letter in self.letters] for state in self._states]
        at_states = [self._letters_at(state) for state in self._states]
        # A letter that no rule lets be is None: nothing that has such a child can be allowed.
        self.ends = [[None if row[sort] is None else numbers[row[sort]] for row in at_states]
                     for sort in range(len(self._sorts))]

    def _set_moves(self):
        """Numbers the wide states; letters that move all of them alike are one action."""
        self.wides = [(state, 0) for state in range(len(self._states))]
        self.wide_at = {wide: at for at, wide in enumerate(self.wides)}
        self.wide_moves = []
        while len(self.wide_moves) < len(self.wides):
            state, seen = self.wides[len(self.wide_moves)]
            row = []
            for letter, place in enumerate(self.moves[state]):
                wide = (place, seen | (self.letters[letter][0] & self.later))
                if wide not in self.wide_at:
                    self.wide_at[wide] = len(self.wides)
                    self.wides.append(wide)
                row.append(self.wide_at[wide])
            self.wide_moves.append(row)
        self._set_actions()
        self._set_exits()

    def _set_actions(self):
        seen = {}
        self.action_of = []
        self.cheapest = []
        for letter, cost in enumerate(self.costs):
            column = tuple([row[letter] for row in self.wide_moves])
            action = seen.setdefault(column, len(seen))
            self.action_of.append(action)
            if action == len(self.cheapest):
                self.cheapest.append(letter)
            elif cost < self.costs[self.cheapest[action]]:
                self.cheapest[action] = letter
        self.narrow_rows = [[row[letter] for letter in self.cheapest] for row in self.moves]
        self.wide_rows = [[row[letter] for letter in self.cheapest] for row in self.wide_moves]

    def _set_exits(self):
        """For each sort of names the unlike pairs of a letter and what came, and the place of each wide state's one."""
        self.exits = []
        self.exit_at = []
        for ends in self.ends:
            pairs = [(ends[state], seen) for state, seen in self.wides]
            places = {}
            self.exit_at.append([places.setdefault(pair, len(places)) for pair in pairs])
            self.exits.append(list(places))
