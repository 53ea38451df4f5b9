"""Kinds of nodes: what a node's name and its children make of it."""

from keptnomore.conditions import Reading, atoms_of, count_of, depth_of, holds, text_of
from keptnomore.errors import NoKinds, TooMany
from keptnomore.trees import families_of
from keptnomore.words import is_kind_name, is_name, rows_in, words_in

KIND_FORMS = (
    ("some", "K"),
    ("every", "K"),
    ("first", "K"),
    ("last", "K"),
    ("K", "then", "K"),
    ("K", "next", "K"),
    ("count", "K", "mod", "2", "is", "0"),
    ("count", "K", "mod", "2", "is", "1"),
    ("count", "K", "mod", "3", "is", "0"),
    ("count", "K", "mod", "3", "is", "1"),
    ("count", "K", "mod", "3", "is", "2"),
    ("below", "K"),
)
# Each atom has just one of these.
ATOM_WORDS = ("some", "every", "first", "last", "then", "next", "count", "below")


class KindRow:
    """A row of a text of kinds: the kind, the names, the words of the condition and what they say, or None."""

    def __init__(self, kind, names, words, condition):
        self.kind = kind
        self.names = tuple(names)
        self.words = tuple(words)
        self.condition = condition

    def line(self):
        """The text of the row."""
        text = f"kind {self.kind} of " + " ".join(self.names)
        if self.condition is None:
            return text
        return f"{text} where {text_of(self.condition)}"

    def unlike_atoms(self):
        """The texts of its unlike atoms."""
        if self.condition is None:
            return []
        return sorted({text_of(atom) for atom in atoms_of(self.condition)})

    def used_kinds(self):
        """The kind names in its condition."""
        return [word for word in self.words if is_kind_name(word)]


def is_place(word):
    """Whether a word may stand among the NAMES of a row."""
    return is_name(word) or word in ("any", "other")


def condition_of(words):
    """The condition that these words are, or None if they are none."""
    reading = Reading(KIND_FORMS, ("not",))
    for word in words:
        if not reading.take(word):
            return None
    return reading.ended()


def kind_row_of(words):
    """The row that these words are, or None if they are none."""
    if len(words) < 4 or words[0] != "kind" or not is_kind_name(words[1]) or words[2] != "of":
        return None
    ahead = words.index("where") if "where" in words else len(words)
    names = words[3:ahead]
    if not 1 <= len(names) <= 4 or len(set(names)) < len(names):
        return None
    if not all([is_place(name) for name in names]):
        return None
    if ahead == len(words):
        return KindRow(words[1], names, [], None)
    condition = condition_of(words[ahead + 1:])
    if condition is None:
        return None
    return KindRow(words[1], names, words[ahead + 1:], condition)


def refuse_faults(rows):
    """Raises what is wrong about the rows together."""
    kinds = [row.kind for row in rows]
    for at, kind in enumerate(kinds):
        if kind in kinds[:at]:
            raise NoKinds(at)
    for at, row in enumerate(rows):
        if not all([kind in kinds for kind in row.used_kinds()]):
            raise NoKinds(at)
    if len(rows) > 4:
        raise TooMany("kinds")
    if any([count_of(row.words, ATOM_WORDS) > 8 for row in rows]):
        raise TooMany("atoms")
    if any([depth_of(row.words) > 6 for row in rows]):
        raise TooMany("deep")


def is_followed(children, one, two):
    """Whether a child has the kind `one`, and some later child the kind `two`."""
    with_one = [at for at, child in enumerate(children) if one in child]
    return bool(with_one) and any([two in child for child in children[with_one[0] + 1:]])


def is_atom_true(atom, children, below):
    """Whether an atom holds, by the kinds of the children and all kinds below."""
    if atom[1] == "then":
        return is_followed(children, atom[0], atom[2])
    if atom[1] == "next":
        return any([atom[0] in one and atom[2] in two for one, two in zip(children, children[1:])])
    having = [atom[1] in child for child in children]
    if atom[0] == "count":
        return having.count(True) % int(atom[3]) == int(atom[5])
    if atom[0] == "some":
        return any(having)
    if atom[0] == "every":
        return all(having)
    if atom[0] == "first":
        return having[:1] == [True]
    if atom[0] == "last":
        return having[-1:] == [True]
    return atom[1] in below


class Kinds:
    """The kinds that nodes may have; they look only at deeper nodes."""

    def __init__(self, rows):
        self.words = tuple([row.kind for row in rows])
        self.names = tuple(sorted({name for row in rows for name in row.names if is_name(name)}))
        self.rows = tuple(rows)
        self.atoms = tuple(sorted({atom for row in rows for atom in row.unlike_atoms()}))
        self._text = "\n".join([row.line() for row in rows])

    @staticmethod
    def read(text):
        """The kinds that the text tells."""
        rows = []
        for at, row in enumerate(rows_in(text)):
            found = kind_row_of(words_in(row))
            if found is None:
                raise NoKinds(at)
            rows.append(found)
        refuse_faults(rows)
        return Kinds(rows)

    def __str__(self):
        return f"{self._text}"

    def __eq__(self, other):
        return isinstance(other, Kinds) and self._text == other._text

    def __len__(self):
        return len(self.words)

    def __contains__(self, word):
        return word in self.words

    def of(self, tree):
        """The kinds of the root of the tree."""
        return self.by_place(tree)[0]

    def table(self, tree):
        """The kinds of each node, by its mark."""
        return {node.mark: kinds for node, kinds in zip(list(tree), self.by_place(tree))}

    def by_place(self, tree):
        """The kinds of each node, in the order in which the nodes open."""
        nodes = list(tree)
        families = families_of(tree)
        found = [() for _ in nodes]
        within = [() for _ in nodes]
        for place in reversed(range(len(nodes))):
            children = [found[child] for child in families[place]]
            below = [kind for kind in self.words if any([kind in within[child] for child in families[place]])]
            found[place] = self._kinds_at(nodes[place].name, children, below)
            within[place] = tuple(below) + found[place]
        return found

    def _kinds_at(self, name, children, below):
        truths = {text: is_atom_true(text.split(" "), children, below) for text in self.atoms}
        return tuple([row.kind for row in self.rows if self.has_name(row, name)
                      and (row.condition is None or holds(row.condition, truths))])

    def has_name(self, row, name):
        """Whether the name is among the NAMES of a row."""
        if name in row.names or "any" in row.names:
            return True
        return "other" in row.names and name not in self.names
