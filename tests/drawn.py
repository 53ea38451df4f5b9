"""Drawn spaces and pasts, and a slow second way: all whole documents up to some nodes more are gone through."""

import random

from keptnomore.errors import NoDocument, TooGreat, TooMany
from keptnomore.kinds import Kinds
from keptnomore.questions import Question
from keptnomore.rules import Rules
from keptnomore.spaces import Space
from keptnomore.trees import Tree

CLOSE = ("close",)


def drawn_condition(rng, atom, depth):
    shape = rng.random()
    if depth == 0 or shape < 0.5:
        return atom(depth)
    if shape < 0.65:
        return f"not ( {drawn_condition(rng, atom, depth - 1)} )"
    joint = rng.choice(["and", "or"])
    return f"( {drawn_condition(rng, atom, depth - 1)} {joint} {drawn_condition(rng, atom, depth - 1)} )"


def drawn_kinds(rng, kinds="ABC", names="ab"):
    kinds = kinds[:rng.randint(1, len(kinds))]

    def atom(_):
        one, two = rng.choice(kinds), rng.choice(kinds)
        modulus = rng.choice([2, 3])
        return rng.choice([
            f"some {one}", f"every {one}", f"first {one}", f"last {one}", f"{one} then {two}", f"{one} next {two}",
            f"count {one} mod {modulus} is {rng.randrange(modulus)}", f"below {one}"])

    rows = []
    for kind in kinds:
        words = rng.sample(list(names) + ["any", "any", "other"], rng.randint(1, 2))
        row = f"kind {kind} of {' '.join(sorted(set(words)))}"
        if rng.random() < 0.6:
            row = f"{row} where {drawn_condition(rng, atom, 1)}"
        rows.append(row)
    return Kinds.read("\n".join(rows))


def drawn_rules(rng, kinds):
    rows = [f"{rng.choice(['all', 'root'])} {rng.choice(kinds.words)}" for _ in range(rng.choice([0, 0, 0, 1, 1, 2]))]
    return Rules.read("\n".join(rows))


def drawn_question(rng, kinds):
    def atom(depth):
        kind = rng.choice(kinds.words)
        if rng.random() < 0.45 and depth > 0:
            return f"{rng.choice(['parent', 'above'])} ( {drawn_condition(rng, atom, depth - 1)} )"
        return rng.choice([f"is {kind}", f"is {kind}", "root", f"earlier {kind}", f"later {kind}", f"later {kind}"])

    while True:
        try:
            return Question.read(drawn_condition(rng, atom, 3))
        except TooMany:
            pass


def drawn_space(rng, most=24, questions=(1, 2), names="ab", kinds="ABC"):
    while True:
        drawn = drawn_kinds(rng, kinds, names)
        asked = [drawn_question(rng, drawn) for _ in range(rng.randint(*questions))]
        try:
            space = Space(drawn, drawn_rules(rng, drawn), asked)
        except (NoDocument, TooGreat, TooMany):
            continue
        if product_of(space) <= most:
            return space


def product_of(space):
    """[21], taken from the texts."""
    product = 1
    atoms = set()
    for row in str(space.kinds).split("\n"):
        words = [word for word in row.partition(" where ")[2].split(" ") if word not in ("(", ")", "not", "")]
        atom = []
        for word in words + ["and"]:
            if word in ("and", "or"):
                atoms.add(tuple(atom))
                atom = []
            else:
                atom.append(word)
    for atom in atoms - {()}:
        if atom[0] == "count":
            product *= int(atom[3])
        else:
            product *= 3 if atom[0] == "first" or atom[1] in ("then", "next") else 2
    for head in ("earlier", "later"):
        found = set()
        for question in space.questions:
            words = str(question).split(" ")
            found |= {words[at + 1] for at, word in enumerate(words) if word == head}
        product *= 2 ** len(found)
    for question in space.questions:
        product *= 4 ** len(outer_texts(str(question)))
    return product


def outer_texts(text):
    """The unlike outer conditions in a text of the form of [12], without parentheses around them."""
    words = text.split(" ")
    found = set()
    for at, word in enumerate(words):
        if word in ("parent", "above"):
            end = at + 1
            while words[end] in ("not", "parent", "above"):
                end += 1
            if words[end] == "(":
                depth = 1
                stop = end
                while depth:
                    stop += 1
                    depth += {"(": 1, ")": -1}.get(words[stop], 0)
            else:
                stop = end if words[end] == "root" else end + 1
            outer = words[at + 1:stop + 1]
            if outer[0] == "(":
                outer = outer[1:-1]
            found.add(" ".join(outer))
    return found


def names_of(space):
    """The names of the space's kinds, and one that is none of them."""
    return list(space.kinds.names) + ["zz"]


def forests(names, many):
    """All rows of trees with just so many nodes, as tuples of (name, children)."""
    if many == 0:
        return [()]
    found = []
    for size in range(1, many + 1):
        for inside in forests(names, size - 1):
            for rest in forests(names, many - size):
                found.extend([((name, inside),) + rest for name in names])
    return found


def events_of_forest(forest, marks):
    found = []
    for name, inside in forest:
        found.append(("open", name, next(marks)))
        found.extend(events_of_forest(inside, marks))
        found.append(CLOSE)
    return found


def counted(free):
    while True:
        yield free
        free += 1


def splits(many, places):
    """All ways to give so many to so many places."""
    if places == 0:
        return [()] if many == 0 else []
    return [(first,) + rest for first in range(many + 1) for rest in splits(many - first, places - 1)]


class Slow:
    """Goes through all going ons with just so many new nodes."""

    def __init__(self, space):
        self.space = space
        self.names = names_of(space)
        self.forests = {}

    def forests_of(self, many):
        if many not in self.forests:
            self.forests[many] = forests(self.names, many)
        return self.forests[many]

    def rows(self, depth, many, free=1000):
        """All rows of events that close so many open nodes and have so many new ones in them."""
        for split in splits(many, depth):
            yield from self.joined(list(split), [], free)

    def joined(self, split, ahead, free):
        if not split:
            marks = counted(free)
            row = []
            for forest in ahead:
                row.extend(events_of_forest(forest, marks))
                row.append(CLOSE)
            yield row
            return
        for forest in self.forests_of(split[0]):
            yield from self.joined(split[1:], ahead + [forest], free)

    def wholes(self, events, many, free=1000):
        """The going ons with so many new nodes, as pairs of the row and the allowed tree."""
        depth = depth_of(events)
        for row in self.rows(depth, many, free):
            tree = Tree.from_events(list(events) + row)
            if self.space.rules.lets(self.space.kinds, tree):
                yield row, tree

    def picked(self, tree):
        return [set(question.picks(self.space.kinds, tree)) for question in self.space.questions]

    def documents(self, many, free=1):
        """All allowed documents with just so many nodes."""
        for forest in self.forests_of(many):
            if len(forest) == 1:
                tree = Tree.from_events(events_of_forest(forest, counted(free)))
                if self.space.rules.lets(self.space.kinds, tree):
                    yield tree


def depth_of(events):
    return sum(1 if len(event) == 3 else -1 for event in events)


def drawn_events(rng, house, many, close=0.4, free=1, limit=40):
    """Events that a copy of the house takes, one after another, within one document."""
    house = house.copied()
    names = names_of(house.space)
    row = []
    while len(row) < many:
        words = house.may()
        if house.is_resting and row:
            break
        opens = [word for word in words if word != "/"]
        if "/" in words and (not opens or house.depth >= limit or rng.random() < close):
            event = CLOSE
        elif opens:
            name = rng.choice(opens)
            event = ("open", "zz" if name == "other" else name, free)
            free += 1
        else:
            break
        house.take(event)
        row.append(event)
    assert set(names) >= {event[1] for event in row if len(event) == 3}
    return row


def seeded(*words):
    return random.Random(repr(words))
