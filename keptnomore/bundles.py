"""Bundles: rows of whole trees that were made by other hands."""

from keptnomore.errors import NoBundle, OtherSpace
from keptnomore.likeness import Likeness
from keptnomore.plans import events_of_plan
from keptnomore.trees import Tree, event_of, is_event, word_of
from keptnomore.words import words_in


def trees_of(events):
    """The trees whose events these are, one tree behind another."""
    trees = []
    begun = []
    depth = 0
    for at, event in enumerate(events):
        if not is_event(event):
            raise NoBundle(at)
        depth = depth + 1 if len(event) == 3 else depth - 1
        if depth < 0:
            raise NoBundle(at)
        begun.append(event)
        if depth == 0:
            trees.append(Tree.from_events(begun))
            begun = []
    if begun:
        raise NoBundle(len(events))
    return trees


class Bundle:
    """A row of whole trees for a space; whether it can be allowed is not looked at here."""

    def __init__(self, space, events):
        self._space = space
        self._events = tuple(events)
        self._trees = tuple(trees_of(events))

    @staticmethod
    def read(space, text):
        """The bundle whose events stand in the row."""
        return Bundle(space, [event_of(word) for word in words_in(text)])

    @property
    def space(self):
        """The space that the bundle is for."""
        return self._space

    @property
    def trees(self):
        """The tuple of its trees."""
        return self._trees

    def __iter__(self):
        return iter(self._trees)

    def __len__(self):
        return len(self._trees)

    def __str__(self):
        return " ".join([word_of(event) for event in self._events])

    def listed(self):
        """The list of its events."""
        return list(self._events)

    def glued(self, other):
        """The bundle of the trees of both."""
        if not self._space == other.space:
            raise OtherSpace()
        return Bundle(self._space, self.listed() + other.listed())

    def is_like(self, other):
        """Whether the spaces are equal and each house that does not rest takes both alike."""
        return self._space == other.space and self._plan_unlike(other) is None

    def unlike(self, other, *, free):
        """A past of a house that takes them unlike, or None."""
        if not self._space == other.space:
            raise OtherSpace()
        plan = self._plan_unlike(other)
        return None if plan is None else events_of_plan(self._space.machine, plan, free)

    def _plan_unlike(self, other):
        return Likeness(self._space.bases(), self._trees, other.trees).plan()
