"""Questions: conditions at a node, which select nodes of a whole document."""

from keptnomore.conditions import (
    HEADS, OUTER, Reading, atoms_of, count_of, depth_of, holds, joined, outer_texts, text_of)
from keptnomore.errors import NoQuestion, TooMany, UnknownKind
from keptnomore.trees import families_of
from keptnomore.words import is_kind_name, words_in

QUESTION_FORMS = (("is", "K"), ("root",), ("earlier", "K"), ("later", "K"))
# Each atom begins with one of these, and none of them stands elsewhere.
ATOM_WORDS = ("is", "root", "earlier", "later", "parent", "above")


def refuse_many(words, part):
    """Raises TooMany if these words of a question, or what they say, are beyond the limits."""
    if count_of(words, ATOM_WORDS) > 8:
        raise TooMany("atoms")
    if depth_of(words) > 6:
        raise TooMany("deep")
    if len(set(outer_texts(part))) > 2:
        raise TooMany("outer")


def question_of(part):
    """The question that says this; its words are those of the text that it will have."""
    refuse_many(text_of(part).split(" "), part)
    return Question(part)


def seen_ahead(rows):
    """For each row of kinds, all kinds in the rows ahead of it."""
    seen = []
    found = []
    for row in rows:
        found.append(seen)
        seen = seen + [kind for kind in row if kind not in seen]
    return found


class Surroundings:
    """For each node of a tree its kinds, the place of its parent, and the kinds of its siblings."""

    def __init__(self, kinds, tree):
        self.rows = kinds.by_place(tree)
        self.parents = [None for _ in self.rows]
        self.ahead = [[] for _ in self.rows]
        self.behind = [[] for _ in self.rows]
        for place, family in enumerate(families_of(tree)):
            rows = [self.rows[child] for child in family]
            ahead = seen_ahead(rows)
            behind = seen_ahead(rows[::-1])[::-1]
            for at, child in enumerate(family):
                self.parents[child] = place
                self.ahead[child] = ahead[at]
                self.behind[child] = behind[at]

    def tells(self, words, place):
        """Whether an atom without an outer condition holds at a place."""
        if words[0] == "root":
            return self.parents[place] is None
        if words[0] == "is":
            return words[1] in self.rows[place]
        if words[0] == "earlier":
            return words[1] in self.ahead[place]
        return words[1] in self.behind[place]

    def all_truths(self, part):
        """For each node a dict that tells of each atom in the condition, by its text, whether it holds there."""
        atoms = [(text_of(atom), atom) for atom in atoms_of(part)]
        found = []
        # A parent opens ahead of its children, so what holds there is known.
        for place, parent in enumerate(self.parents):
            over = None if parent is None else found[parent]
            found.append({text: self._is_true(text, atom, place, over) for text, atom in atoms})
        return found

    def _is_true(self, text, atom, place, over):
        head, under = atom
        if head not in OUTER:
            return self.tells(under, place)
        if over is None:
            return False
        return (head == "above" and over[text]) or holds(under, over)


class Question:
    """A question, which asks the same at every node."""

    def __init__(self, part):
        self.part = part
        self._text = text_of(part)

    @staticmethod
    def read(text):
        """The question that the text asks."""
        words = words_in(text)
        reading = Reading(QUESTION_FORMS, HEADS)
        for at, word in enumerate(words):
            if not reading.take(word):
                raise NoQuestion(at)
        part = reading.ended()
        if part is None:
            raise NoQuestion(len(words))
        refuse_many(words, part)
        return Question(part)

    def __str__(self):
        return f"{self._text}"

    def __eq__(self, other):
        return isinstance(other, Question) and self._text == other._text

    def __and__(self, other):
        return question_of(joined("and", [self.part, other.part]))

    def __or__(self, other):
        return question_of(joined("or", [self.part, other.part]))

    def __invert__(self):
        return question_of(("not", self.part))

    def refuse_unknown(self, kinds):
        """Raises UnknownKind for the first kind name in the text that is none of the kinds."""
        for word in words_in(self._text):
            if is_kind_name(word) and word not in kinds:
                raise UnknownKind(word)

    def picks(self, kinds, tree):
        """The ascending marks of the nodes that the question selects."""
        self.refuse_unknown(kinds)
        truths = Surroundings(kinds, tree).all_truths(self.part)
        return sorted([node.mark for node, told in zip(list(tree), truths) if holds(self.part, told)])
